import PyProof.Rows.All
import Wide.All
import OpenK.AllK
import Wide.FinOn
import Lean
import PyProof.EqAt
import PyProof.EqKinds
import PyProof.TupleCall
import PySem.Challenge.RW_tapeproof_k23_fast_far
local macro_rules | `(tactic| omega) => `(tactic| lia)
set_option Elab.async false
set_option linter.all false
set_option maxRecDepth 100000
namespace L2
open PySem PySem.Spec PyProof.Rows
noncomputable abbrev Key:=Sum Int Str
noncomputable def Qjk:Key->Value->Bool
 | .inl k,v=>Value.isInt k v
 | .inr x,v=>Value.isStrOf x v
noncomputable def keyH (w:World):Key->Int
 | .inl k=>hashInt k
 | .inr x=>hashStr w x
theorem QZ:∀ {k:Key} {v:Value},Qjk k v=true->(∃ i t,k=Sum.inl i∧v=Value.int i t)∨(∃ x t,k=Sum.inr x∧v=Value.str x t)
 | .inl i,v,h=>by
  obtain⟨t,e⟩:=Value.isInt_shape (k:=i) (v:=v) h
  exact .inl ⟨i,t,rfl,e⟩
 | .inr x,v,h=>by
  obtain⟨t,e⟩:=Value.isStrOf_shape (x:=x) (v:=v) h
  exact .inr ⟨x,t,rfl,e⟩
theorem Qjl (a b:Int):decide ((Sum.inl a:Key)=Sum.inl b)=(a == b):=by
 by_cases e:a=b
 ·subst e; simp
 ·have h:¬ (Sum.inl a:Key)=Sum.inl b:=fun q=>e (Sum.inl.inj q)
  rw [decide_eq_false h]
  exact(beq_eq_false_iff_ne.mpr e).symm
theorem Qjm (a b:Str):decide ((Sum.inr a:Key)=Sum.inr b)=decide (a=b):=by
 by_cases e:a=b
 ·subst e; simp
 ·have h:¬ (Sum.inr a:Key)=Sum.inr b:=fun q=>e (Sum.inr.inj q)
  rw [decide_eq_false h,decide_eq_false e]
theorem Qjn (a:Int) (b:Str):decide ((Sum.inl a:Key)=Sum.inr b)=false:=decide_eq_false (fun q=>nomatch q)
theorem Qjo (a:Str) (b:Int):decide ((Sum.inr a:Key)=Sum.inl b)=false:=decide_eq_false (fun q=>nomatch q)
noncomputable def Qfj (prog:Program) (w:World):PySem.KeyKind prog w Key where
 is:=Qjk
 hash:=keyH w
 inj:=fun v a b ha hb=>by
  rcases QZ ha with⟨i,t,rfl,rfl⟩ | ⟨x,t,rfl,rfl⟩
  ·rcases QZ hb with⟨j,u,rfl,e⟩ | ⟨y,u,rfl,e⟩
   ·injection e with e1 _; rw [e1]
   ·exact nomatch e
  ·rcases QZ hb with⟨j,u,rfl,e⟩ | ⟨y,u,rfl,e⟩
   ·exact nomatch e
   ·injection e with e1 _; rw [e1]
 byValue:=fun k v h=>by
  rcases QZ h with⟨i,t,rfl,rfl⟩ | ⟨x,t,rfl,rfl⟩ <;> rfl
 pyHash:=fun hv h=>by
  rcases QZ hv with⟨i,t,rfl,rfl⟩ | ⟨x,t,rfl,rfl⟩
  ·exact wpAny_pyHash_int h
  ·exact wpAny_pyHash_str h
 eqBool:=fun hu hv h=>by
  rcases QZ hu with⟨i,t,rfl,rfl⟩ | ⟨x,t,rfl,rfl⟩
  ·rcases QZ hv with⟨j,u,rfl,rfl⟩ | ⟨y,u,rfl,rfl⟩
   ·rw [Qjl] at h; exact wpAny_eqBool_int h
   ·rw [Qjn] at h; exact SeqAt.EqAt.int_str i t y u _ _ _ _ h
  ·rcases QZ hv with⟨j,u,rfl,rfl⟩ | ⟨y,u,rfl,rfl⟩
   ·rw [Qjo] at h; exact SeqAt.EqAt.str_int x t j u _ _ _ _ h
   ·rw [Qjm] at h; exact wpAny_eqBool_str h
 «strs»:=fun k x t v h=>by
  rcases QZ h with⟨i,u,rfl,e⟩ | ⟨y,u,rfl,e⟩
  ·exact nomatch e
  ·injection e with e1 _
   subst e1
   cases v <;> rfl
end L2
namespace L2
open PySem PySem.Spec PyProof.Rows
inductive V where
 | non | bl (b:Bool) | int (i:Int) | str (x:Str) | byt (b:Array UInt8) | flt (b:UInt64) | ref (a:Addr) | ty (n:String)
 deriving DecidableEq
noncomputable def RelV:V->Value->Prop
 | .non,u=>u=Value.none
 | .bl b,u=>u=Value.bool b
 | .int i,u=>∃ t,u=Value.int i t
 | .str x,u=>∃ t,u=Value.str x t
 | .byt b,u=>∃ t,u=Value.bytes b t
 | .flt b,u=>∃ t,u=Value.float b t
 | .ref a,u=>u=Value.ref a
 | .ty n,u=>u=Value.type n
noncomputable abbrev Vals:List V->List Value->Prop:=Paired RelV
theorem Vals.length {xs:List V} {us:List Value} (r:Vals xs us):xs.length=us.length:=Paired.length r
theorem Vals.get:∀ {xs:List V} {us:List Value} {i:Nat} {x:V},Vals xs us->xs[i]?=some x->∃ u,us[i]?=some u∧RelV x u
 | _,_,_,_,.nil,e=>by simp at e
 | _,_,0,_,.cons r _,e=>by simp at e; subst e; exact⟨_,rfl,r⟩
 | _,_,i+1,x,.cons _ t,e=>by
  obtain⟨u,h1,h2⟩:=Vals.get (i:=i) (x:=x) t (by simpa using e)
  exact⟨u,by simpa using h1,h2⟩
theorem Vals.set {x:V} {u:Value} (r:RelV x u):∀ {xs:List V} {us:List Value} (i:Nat),Vals xs us->Vals (xs.set i x) (us.set i u)
 | _,_,_,.nil=>.nil
 | _,_,0,.cons _ t=>.cons r t
 | _,_,i+1,.cons q t=>.cons q (Vals.set r i t)
theorem Vals.append:∀ {xs ys:List V} {us ws:List Value},Vals xs us->Vals ys ws->Vals (xs++ys) (us++ws)
 | _,_,_,_,.nil,s=>s
 | _,_,_,_,.cons r t,s=>.cons r (Vals.append t s)
theorem Vals.take:∀ {xs:List V} {us:List Value} (n:Nat),Vals xs us->Vals (xs.take n) (us.take n)
 | _,_,0,_=>.nil
 | _,_,_+1,.nil=>.nil
 | _,_,n+1,.cons r t=>.cons r (Vals.take n t)
theorem Vals.drop:∀ {xs:List V} {us:List Value} (n:Nat),Vals xs us->Vals (xs.drop n) (us.drop n)
 | _,_,0,r=>r
 | _,_,_+1,.nil=>.nil
 | _,_,n+1,.cons _ t=>Vals.drop n t
theorem Vals.none_of:∀ {xs:List V} {us:List Value} {i:Nat},Vals xs us->xs[i]?=none->us[i]?=none:=fun {xs us i} r e=>by
 have h1:=r.length
 have h2:xs.length≤i:=List.getElem?_eq_none_iff.mp e
 exact List.getElem?_eq_none_iff.mpr (by omega)
noncomputable def RelO:Option V->Option Value->Prop
 | some v,some u=>RelV v u
 | none,none=>True
 | _,_=>False
noncomputable def KV {κ:Type}:List (κ×V)->List (κ×Value)->Prop:=Paired fun(p:κ×V) (q:κ×Value)=>p.1=q.1∧RelV p.2 q.2
noncomputable def kV:Key->V
 | .inl i=>.int i
 | .inr x=>.str x
inductive HO where
 /-- a list -/
 | lst (xs:List V)
 /-- a tuple (never changes) -/
 | tup (xs:List V)
 /-- a dict whose keys are ints and texts; one whose keys are tuples of ints and texts (the empty one is both) -/
 | dK (kvs:List (Key×V)) | dT (kvs:List (List Key×V))
 /-- a set of ints: its members,its size -/
 | set (S:Int->Bool) (n:Nat)
 /-- an instance of the class at C,its dict at dx,its attributes -/
 | ins (C dx:Addr) (fs:List (Str×V))
 /-- the dict of the instance at x -/
 | own (x:Addr)
 /-- the dict of an exception -/
 | xd (fs:List (Str×V))
 /-- a bound method,f of x -/
 | met (f x:Addr)
 /-- a range object lo,lo+1,.. below hi -/
 | rng (lo hi:Int)
 /-- a thing that is known to the object (the script; a dict while a loop walks it): read,never written while it is so -/
 | frz (o:Obj) (u:HO)
 /-- a code object's table -/
 | tbl (ps:Array Value)
 /-- any other thing,by what is true of its one object (a def of one's own: SetO a S n:=HO.ext fun h=>..) -/
 | ext (φ:Heap->Prop)
noncomputable abbrev Hp:=Addr->Option HO
noncomputable def upd (H:Hp) (a:Addr) (o:HO):Hp:=fun b=>if b=a then some o else H b
theorem Qu {H:Hp} {a:Addr} {o:HO}:upd H a o a=some o:=by unfold upd; rw [if_pos rfl]
theorem Qx {H:Hp} {a b:Addr} {o:HO} (h:b≠a):upd H a o b=H b:=by unfold upd; rw [if_neg h]
theorem Qid {H:Hp} {a b:Addr} {o u:HO} (h:H a=some o) (h':H b=some u) (d:o≠u):a≠b:=by
 intro e; subst e; rw [h] at h'; exact d (Option.some.inj h')
theorem QO {H:Hp} {a b:Addr} {o:HO} (h:H a=some o) (h':H b=none):a≠b:=by
 intro e; subst e; rw [h] at h'; cases h'
section
variable (P:Program) (w:World)
noncomputable def ObjOk (H:Hp) (h:Heap) (a:Addr):HO->Prop
 | .lst xs=>xs.length≤sizeLine∧∃(its:List Value) (n:Nat),Vals xs its∧h.get? a=some { cls:=.type "list",data:=.seq its.toArray n }
 | .tup xs=>xs.length≤sizeLine∧∃ its:List Value,Vals xs its∧IsTup h a its.toArray
 | .dK kvs=>kvs.length≤sizeLine∧(a == sysModules)=false∧∃ vs,KV kvs vs∧h.DictOf (Qfj P w) a vs
 | .dT kvs=>kvs.length≤sizeLine∧(a == sysModules)=false∧∃ xs:List (List Key×Addr×Value),
   Paired (fun(p:List Key×V) (q:List Key×Addr×Value)=>p.1=q.1∧H q.2.1=some (.tup (p.1.map kV))∧RelV p.2 q.2.2) kvs xs ∧
   ∃ o es ep,h.get? a=some o∧o.ExactDict∧o.data=.dict es ep∧es.toList=xs.map (entryOfKey (tupleKind (Qfj P w)))∧(xs.map (·.1)).Nodup
 | .set S n=>h.SetOf (intKind P w) a S n
 | .ins C dx fs=>H dx=some (.own a)∧fs.length≤1000∧dx≠a∧h.get? a=some (PySem.W.instObj C dx) ∧
   ∃ mA,h.Ns1 dx mA∧(∀ f,RelO (fs.lookup f) (mA f))∧PySem.Within mA (fs.map (·.1))
 | .own _=>∃ o,h.get? a=some o
 | .xd fs=>∃ mA,h.Ns1 a mA∧∀ f,RelO (fs.lookup f) (mA f)
 | .rng lo hi=>∃ t u v,h.get? a=some { cls:=.type "range",data:=.fields #[.int lo t,.int hi u,.int 1 v] }
 | .frz o u=>h.get? a=some o∧ObjOk H h a u
 | .tbl ps=>h.get? a=some { cls:=.none,data:=.fields ps }
 | .met f x=>h.get? a=some (PySem.W.methodObj (.ref f) (.ref x))
 | .ext φ=>φ h∧(∃ o,h.get? a=some o)∧∀ h1 h2:Heap,φ h1->(∀ o,h1.get? a=some o->h2.get? a=some o)->φ h2
noncomputable def HOk (H:Hp) (h:Heap):Prop:=∀ a o,H a=some o->ObjOk P w H h a o
end
section
variable {P:Program} {w:World} {H H':Hp} {h h':Heap} {a:Addr} {o:HO}
theorem ObjOk.lt (x:ObjOk P w H h a o):a<h.objs.size:=by
 cases o with
 | lst xs=>obtain⟨_,_,_,_,e⟩:=x; exact Heap.lt_size e
 | tup xs=>obtain⟨_,_,_,p⟩:=x; exact p.lt
 | dK kvs=>obtain⟨_,_,_,_,o,_,_,e,_⟩:=x; exact Heap.lt_size e
 | dT kvs=>obtain⟨_,_,_,_,o,_,_,e,_⟩:=x; exact Heap.lt_size e
 | set S n=>obtain⟨o,_,_,_,e,_⟩:=x; exact Heap.lt_size e
 | ins C dx fs=>obtain⟨_,_,_,e,_⟩:=x; exact Heap.lt_size e
 | own y=>obtain⟨_,e⟩:=x; exact Heap.lt_size e
 | xd fs=>obtain⟨_,⟨_,_,_,e,_⟩,_⟩:=x; exact Heap.lt_size e
 | rng lo hi=>obtain⟨_,_,_,e⟩:=x; exact Heap.lt_size e
 | frz ob u=>obtain⟨e,_⟩:=x; exact Heap.lt_size e
 | tbl ps=>exact Heap.lt_size (show h.get? a=some _ from x)
 | met f y=>exact Heap.lt_size (show h.get? a=some _ from x)
 | ext φ=>obtain⟨_,⟨_,e⟩,_⟩:=x; exact Heap.lt_size e
theorem Paired.mapP {α β:Type} {F G:α->β->Prop}:∀ {l₁:List α} {l₂:List β},Paired F l₁ l₂->(∀ a b,F a b->G a b)->Paired G l₁ l₂
 | _,_,.nil,_=>.nil
 | _,_,.cons r t,f=>.cons (f _ _ r) (Paired.mapP t f)
theorem Paired.imp' {α β:Type} {F G:α->β->Prop} (f:∀ a b,F a b->G a b) {l₁:List α} {l₂:List β} (r:Paired F l₁ l₂):Paired G l₁ l₂:=Paired.mapP r f
theorem ObjOk.stay (x:ObjOk P w H h a o) (k:∀ b u,(b=a∨H b=some (.own a))->h.get? b=some u->h'.get? b=some u)
  (ho:∀ b,H b=some (.own a)->H' b=some (.own a)) (ht:∀ b xs,H b=some (.tup xs)->H' b=some (.tup xs)):ObjOk P w H' h' a o:=by
 induction o with
 | lst xs=>obtain⟨z,its,n,r,e⟩:=x; exact⟨z,its,n,r,k _ _ (.inl rfl) e⟩
 | tup xs=>obtain⟨z,its,r,ob,e,c⟩:=x; exact⟨z,its,r,ob,k _ _ (.inl rfl) e,c⟩
 | dK kvs=>obtain⟨z,y,vs,r,ob,es,ep,e,c⟩:=x; exact⟨z,y,vs,r,ob,es,ep,k _ _ (.inl rfl) e,c⟩
 | dT kvs =>
  obtain⟨z,y,xs,r,ob,es,ep,e,c⟩:=x
  exact⟨z,y,xs,Paired.mapP r fun p q z=>⟨z.1,ht _ _ z.2.1,z.2.2⟩,ob,es,ep,k _ _ (.inl rfl) e,c⟩
 | set S n=>obtain⟨ob,es,ep,t,e,c⟩:=x; exact⟨ob,es,ep,t,k _ _ (.inl rfl) e,c⟩
 | ins C dx fs =>
  obtain⟨d,z,ne,e,mA,⟨od,es,ep,e2,c⟩,r⟩:=x
  exact⟨ho _ d,z,ne,k _ _ (.inl rfl) e,mA,⟨od,es,ep,k _ _ (.inr d) e2,c⟩,r⟩
 | own y=>obtain⟨ob,e⟩:=x; exact⟨ob,k _ _ (.inl rfl) e⟩
 | xd fs=>obtain⟨mA,⟨od,es,ep,e,c⟩,r⟩:=x; exact⟨mA,⟨od,es,ep,k _ _ (.inl rfl) e,c⟩,r⟩
 | rng lo hi=>obtain⟨t,u,v,e⟩:=x; exact⟨t,u,v,k _ _ (.inl rfl) e⟩
 | frz ob u ih=>obtain⟨e,q⟩:=x; exact⟨k _ _ (.inl rfl) e,ih q⟩
 | tbl ps =>
  have e:h.get? a=some { cls:=.none,data:=.fields ps }:=x
  show h'.get? a=some { cls:=.none,data:=.fields ps }
  exact k a _ (.inl rfl) e
 | met f y =>
  have e:h.get? a=some (PySem.W.methodObj (.ref f) (.ref y)):=x
  show h'.get? a=some (PySem.W.methodObj (.ref f) (.ref y))
  exact k a _ (.inl rfl) e
 | ext φ=>obtain⟨p,⟨o,e⟩,st⟩:=x; exact⟨st _ _ p fun o q=>k _ _ (.inl rfl) q,⟨o,k _ _ (.inl rfl) e⟩,st⟩
theorem HOk.lt (x:HOk P w H h) (e:H a=some o):a<h.objs.size:=(x a o e).lt
theorem HOk.fresh (x:HOk P w H h) (e:h.objs.size≤a):H a=none:=by
 cases q:H a with
 | none=>rfl
 | some u=>exact absurd (Nat.lt_of_lt_of_le (x.lt q) e) (Nat.lt_irrefl _)
theorem HOk.kept (x:HOk P w H h) (k:∀ b u,h.get? b=some u->h'.get? b=some u):HOk P w H h':=fun a o e =>
 (x a o e).stay (fun b u _ q=>k b u q) (fun _ q=>q) fun _ _ q=>q
theorem HOk.laid (x:HOk P w H h) (k:∀ b u,h.get? b=some u->h'.get? b=some u) (hp:h.objs.size≤a) (new:ObjOk P w (upd H a o) h' a o):HOk P w (upd H a o) h':=fun b u e=>by
 have hn:=x.fresh hp
 by_cases hb:b=a
 ·subst hb; rw [Qu] at e; cases e; exact new
 ·rw [Qx hb] at e
  exact(x b u e).stay (fun c v _ q=>k c v q) (fun c q=>by rw [Qx (QO q hn)]; exact q) fun c xs q=>by rw [Qx (QO q hn)]; exact q
end
noncomputable def Rd (H:Hp) (a:Addr) (u:HO):Prop:=H a=some u∨∃ o,H a=some (.frz o u)
theorem Rd.of {H:Hp} {a:Addr} {u:HO} (h:H a=some u):Rd H a u:=.inl h
theorem Rd.ok {P:Program} {w:World} {H:Hp} {h:Heap} {a:Addr} {u:HO} (r:Rd H a u) (x:HOk P w H h):ObjOk P w H h a u:=by
 rcases r with r | ⟨o,r⟩
 ·exact x a u r
 ·obtain⟨_,q⟩:=x a _ r
  exact q
noncomputable def Mut:Option HO->Prop
 | some (.lst _)=>True
 | some (.dK _)=>True
 | some (.dT _)=>True
 | some (.set _ _)=>True
 | some (.ins _ _ _)=>True
 | some (.ext _)=>True
 | _=>False
section
variable {P:Program} {w:World} {H:Hp} {h h':Heap} {x e:Addr} {o':HO}
theorem HOk.write (ok:HOk P w H h) (mu:Mut (H x)) (he:e=x∨H e=some (.own x)) (k:∀ b u,b≠e->h.get? b=some u->h'.get? b=some u) (heo:∃ u,h'.get? e=some u)
  (new:ObjOk P w (upd H x o') h' x o'):HOk P w (upd H x o') h':=fun b u q=>by
 have nown:∀ c y,H c=some (.own y)->c≠x:=fun c y r z=>by subst z; rw [r] at mu; exact mu
 have ntup:∀ c xs,H c=some (.tup xs)->c≠x:=fun c xs r z=>by subst z; rw [r] at mu; exact mu
 by_cases hb:b=x
 ·subst hb; rw [Qu] at q; cases q; exact new
 ·rw [Qx hb] at q
  by_cases hbe:b=e
  ·have q':H b=some (.own x):=by
    rcases he with z | z
    ·exact absurd (hbe.trans z) hb
    ·rw [hbe]; exact z
   rw [q] at q'; cases q'
   obtain⟨v,hv⟩:=heo
   exact⟨v,by rw [hbe]; exact hv⟩
  ·refine(ok b u q).stay (fun c v hc r=>k c v ?_ r) (fun c r=>by rw [Qx (nown c b r)]; exact r) fun c xs r=>by rw [Qx (ntup c xs r)]; exact r
   rcases hc with rfl | hc
   ·exact hbe
   ·rintro rfl
    rcases he with z | z
    ·exact nown c b hc z
    ·rw [hc] at z; cases z; exact hb rfl
end
structure Un (fs ex:List Addr) (H H':Hp) (h h':Heap):Prop where
 keep:∀ b o,h.get? b=some o->H b=none->b∉fs->b∉ex->h'.get? b=some o
 slot:∀ b o,h.get? b=some o->H b=none->b∈fs->b∉ex->∃ sl,h'.get? b=some { o with slots:=sl }
 free:∀ b o,h.get? b=some o->H b=none->b∉ex->H' b=none
 there:∀ b o,h.get? b=some o->b∉ex->∃ o',h'.get? b=some o'
 tups:∀ b xs,H b=some (.tup xs)->H' b=some (.tup xs)
 frzs:∀ b o u,H b=some (.frz o u)->H' b=some (.frz o u)
 tbls:∀ b ps,H b=some (.tbl ps)->∃ more,H' b=some (.tbl (ps++more))
section
variable {fs fs' ex ex':List Addr} {H H1 H2:Hp} {h h1 h2 h':Heap} {a x e:Addr} {o:HO}
theorem Un.any (u:Un fs ex H H1 h h1) {b:Addr} {ob:Obj} (q:h.get? b=some ob) (n:H b=none) (hx:b∉ex):∃ sl,h1.get? b=some { ob with slots:=sl }:=by
 by_cases hb:b∈fs
 ·exact u.slot b ob q n hb hx
 ·exact⟨ob.slots,u.keep b ob q n hb hx⟩
theorem Un.trans (a:Un fs ex H H1 h h1) (b:Un fs ex H1 H2 h1 h2):Un fs ex H H2 h h2 where
 keep:=fun c ob q n hc hx=>b.keep c ob (a.keep c ob q n hc hx) (a.free c ob q n hx) hc hx
 slot:=fun c ob q n hc hx=>by
  obtain⟨sl,e1⟩:=a.slot c ob q n hc hx
  obtain⟨sl',e2⟩:=b.slot c _ e1 (a.free c ob q n hx) hc hx
  exact⟨sl',e2⟩
 free:=fun c ob q n hx=>by
  obtain⟨o',e1⟩:=a.there c ob q hx
  exact b.free c o' e1 (a.free c ob q n hx) hx
 there:=fun c ob q hx=>by
  obtain⟨o',e1⟩:=a.there c ob q hx
  exact b.there c o' e1 hx
 tups:=fun c xs q=>b.tups c xs (a.tups c xs q)
 frzs:=fun c ob xs q=>b.frzs c ob xs (a.frzs c ob xs q)
 tbls:=fun c ps q=>by
  obtain⟨m1,e1⟩:=a.tbls c ps q
  obtain⟨m2,e2⟩:=b.tbls c _ e1
  exact⟨m1++m2,by rw [e2,Array.append_assoc]⟩
theorem Un.kept (k:∀ b u,h.get? b=some u->h'.get? b=some u):Un fs ex H H h h' :=
 ⟨fun b ob q _ _ _=>k b ob q,fun b ob q _ _ _=>⟨ob.slots,k b ob q⟩,fun _ _ _ n _=>n,fun b ob q _=>⟨ob,k b ob q⟩,fun _ _ q=>q,fun _ _ _ q=>q,fun _ ps q=>⟨#[],by rw [q]; simp⟩⟩
theorem Un.refl:Un fs ex H H h h:=Un.kept fun _ _ q=>q
theorem Un.laid (k:∀ b u,h.get? b=some u->h'.get? b=some u) (hp:h.objs.size≤a) (hn:H a=none):Un fs ex H (upd H a o) h h' where
 keep:=fun b u q _ _ _=>k b u q
 slot:=fun b u q _ _ _=>⟨u.slots,k b u q⟩
 free:=fun b u q n _=>by rw [Qx (Nat.ne_of_lt (Nat.lt_of_lt_of_le (Heap.lt_size q) hp))]; exact n
 there:=fun b u q _=>⟨u,k b u q⟩
 tups:=fun b xs q=>by rw [Qx (QO q hn)]; exact q
 frzs:=fun b u xs q=>by rw [Qx (QO q hn)]; exact q
 tbls:=fun b ps q=>⟨#[],by rw [Qx (QO q hn),q]; simp⟩
theorem Un.write (mu:Mut (H x)) (he:e=x∨H e=some (.own x)) (k:∀ b u,b≠e->h.get? b=some u->h'.get? b=some u) (heo:∃ u,h'.get? e=some u):Un fs ex H (upd H x o) h h':=by
 have hx:∀ b,H b=none->b≠x:=fun b n z=>by subst z; rw [n] at mu; exact mu
 have hb:∀ b,H b=none->b≠e:=fun b n z=>by
  subst z
  rcases he with r | r
  ·exact hx b n r
  ·rw [n] at r; cases r
 have hm:∀ b u,H b=some u->¬ Mut (some u)->b≠x:=fun b u q nm z=>by subst z; rw [q] at mu; exact nm mu
 refine⟨fun b u q n _ _=>k b u (hb b n) q,fun b u q n _ _=>⟨u.slots,k b u (hb b n) q⟩,fun b u q n _=>by rw [Qx (hx b n)]; exact n,fun b u q _=>?_,
  fun b xs q=>by rw [Qx (hm b _ q fun z=>z)]; exact q,fun b u xs q=>by rw [Qx (hm b _ q fun z=>z)]; exact q,fun b ps q=>⟨#[],by rw [Qx (hm b _ q fun z=>z),q]; simp⟩⟩
 by_cases hbe:b=e
 ·subst hbe; exact heo
 ·exact⟨u,k b u hbe q⟩
theorem Un.mono (u:Un fs ex H H1 h h1) (hs:∀ b∈fs,b∈fs') (hx:∀ b∈ex,b∈ex'):Un fs' ex' H H1 h h1 :=
 ⟨fun b ob q n hb he=>u.keep b ob q n (fun z=>hb (hs b z)) fun z=>he (hx b z),fun _ _ q n _ he=>u.any q n fun z=>he (hx _ z),fun b ob q n he=>u.free b ob q n fun z=>he (hx b z),fun b ob q he=>u.there b ob q fun z=>he (hx b z),u.tups,u.frzs,u.tbls⟩
end
noncomputable def trk (h:Heap) (H:Hp):List Addr:=(List.range h.objs.size).filter fun a=>(H a).isSome
noncomputable def hidT (h:Heap) (H:Hp):Heap:=PySem.W.hideAll h (trk h H)
theorem Qfk (h:Heap) (H:Hp):(hidT h H).objs.size=h.objs.size:=PySem.W.hideAll_size _ _
theorem QgX {h:Heap} {H:Hp} {b:Addr} {o:Obj} (e:h.get? b=some o) (n:H b=none):(hidT h H).get? b=some o :=
 PySem.W.hideAll_get _ e fun hm=>by
  have q:(H b).isSome=true:=(List.mem_filter.mp hm).2
  rw [n] at q; simp at q
theorem Qie {h:Heap} {H:Hp} {b:Addr} {o:Obj} (e:(hidT h H).get? b=some o):h.get? b=some o∧H b=none:=by
 have e':h.get? b=some o:=PySem.W.of_hideAll (trk h H) e
 refine⟨e',?_⟩
 cases q:H b with
 | none=>rfl
 | some x =>
  have hm:b∈trk h H:=List.mem_filter.mpr ⟨List.mem_range.mpr (Heap.lt_size e'),by simp [q]⟩
  have z:(hidT h H).get? b=none:=PySem.W.hideAll_none (trk h H) hm
  rw [z] at e; cases e
noncomputable def Qif (g h:Heap) (L:Addr):List (Addr×Obj):=(List.range h.objs.size).filterMap fun a=>if a=L∨(g.get? a).isSome=true then none else (h.get? a).map fun o=>(a,o)
noncomputable def rest (g h:Heap) (L d:Addr):List (Addr×Obj):=(Qif g h L).filter fun p=>decide (p.1≠d)
end L2
namespace L2
open PySem PySem.Spec PyProof.Rows
structure Mod (K:PySem.W.Frag) (mg:Str->Option Value) (base:Heap):Prop where
 kin:K.In base
 glob:base.Ns mainGlobals mg
 blt:∃ mb,base.Ns builtinsNs mb∧∀ x:Str,x ≠ "__name__" -> mb x=bootBuiltins x
 nolimit:base.NoLimit
/-- the context: a def's body (or a comprehension's block) running. base: fixed through the whole law; s₀,H₀: the entry; outer: the frames whose slots others may change (a def's callers); stack: all frames that run;
   ex: iterators that were made ahead of the entry and are walked here (a comprehension's); fn: the names whose cells were made at the entry (a def: all; a comprehension's block: its own); calm: not within an except suite; pn: pins that every state bears; xe: what is wanted of an exception that leaves the code -/
structure Cx where
 prog:Program
 w:World
 K:PySem.W.Frag
 mg:Str->Option Value
 base:Heap
 A:Around
 N:List Str
 s₀:Shared
 H₀:Hp
 env:Env
 outer:List Env
 stack:List Env
 ex:List Addr
 fn:Str->Bool
 calm:Bool
 pn:List (Addr×Obj)
 xe:Value->Shared->Prop
noncomputable def frs (l:List Env):List Addr:=l.filterMap (·.frame)
noncomputable abbrev Cx.fs (X:Cx):List Addr:=frs X.outer
noncomputable def Vis (sc:Scope) (x:Str):Prop:=sc.names.lookup x=some .local∨sc.names.lookup x=some .cell∨sc.names.lookup x=some .free
noncomputable def Loc (sc:Scope) (x:Str):Prop:=sc.names.lookup x=some .local∨sc.names.lookup x=some .cell
noncomputable def Look (env:Env) (h:Heap) (m:Str->Option Value) (x:Str) (u:Value):Prop :=
 (env.kindOf x=some .local∧m x=some u)∨((env.kindOf x=some .cell∨env.kindOf x=some .free)∧∃ c,env.cells.lookup x=some c∧h.IsCell c (some u))
structure Cx.Ok (X:Cx):Prop where
 mod:Mod X.K X.mg X.base
 kind:X.env.scope.kind=.function
 glob:X.env.globals=mainGlobals
 blt:X.env.builtins=builtinsNs
 above:X.s₀.heap.objs.size≤X.env.locals
 inj:∀ x y c,X.env.cells.lookup x=some c->X.env.cells.lookup y=some c->x=y
 has:∀ x,(X.env.kindOf x=some .cell∨X.env.kindOf x=some .free)->∃ c,X.env.cells.lookup x=some c
 cab:∀ x c,X.fn x=true->X.env.cells.lookup x=some c->X.s₀.heap.objs.size≤c
 hd:X.calm=true->X.A.handled=none
 frames:X.A.frames=some X.stack
 stk:X.stack=X.outer∨(X.stack=X.env::X.outer∧X.env.frame=some X.env.locals)
 exf:∀ b∈X.ex,b≠X.env.locals∧∀ x c,X.env.cells.lookup x=some c->c≠b
 bs:∀ b o,X.base.get? b=some o->X.s₀.heap.get? b=some o∧X.H₀ b=none
 bsz:X.base.objs.size≤X.s₀.heap.objs.size
 noex:∀ b o,X.base.get? b=some o->b∉X.ex
 exfs:∀ b∈X.ex,b∉X.fs
 funs:X.s₀.heap.FunFrames X.base X.outer
 frf:∀ b∈X.fs,X.H₀ b=none
structure Inv (X:Cx) (pins:List (Addr×Obj)) (σ:List (Option V)) (H:Hp) (s:Shared):Prop where
 ok:X.Ok
 os:s.os=X.s₀.os
 bare:AllBare s.gens
 base:Un X.fs X.ex X.H₀ H X.s₀.heap s.heap
 loc:∃ m,s.heap.Ns X.env.locals m∧∀(i:Nat) (x:Str) (v:V),X.N[i]?=some x->σ[i]?=some (some v)->Vis X.env.scope x->∃ u,RelV v u∧Look X.env s.heap m x u
 cell:∀ x c,X.env.cells.lookup x=some c->∃ v,s.heap.IsCell c v
 free:H X.env.locals=none
 freeC:∀ x c,X.env.cells.lookup x=some c->H c=none
 pin:∀ p∈X.pn++pins,s.heap.get? p.1=some p.2∧H p.1=none∧p.1≠X.env.locals∧p.1∉X.fs∧∀ v,p.2.data≠.cell v
 hok:HOk X.prog X.w H s.heap
 len:σ.length=X.N.length
section
variable {X:Cx} {pins:List (Addr×Obj)} {σ:List (Option V)} {H H':Hp} {s:Shared} {h':Heap}
theorem Cx.Ok.nofr (ok:X.Ok) {b:Addr} {o:Obj} (e:X.base.get? b=some o):b∉X.fs:=fun hb=>by
 have:=(ok.funs.mem hb).1
 rw [e] at this; cases this
theorem Inv.bs (I:Inv X pins σ H s):∀ b o,X.base.get? b=some o->s.heap.get? b=some o∧H b=none:=fun b o e =>
 ⟨I.base.keep b o (I.ok.bs b o e).1 (I.ok.bs b o e).2 (I.ok.nofr e) (I.ok.noex b o e),I.base.free b o (I.ok.bs b o e).1 (I.ok.bs b o e).2 (I.ok.noex b o e)⟩
theorem Inv.bk (I:Inv X pins σ H s):∀ b o,X.base.get? b=some o->s.heap.get? b=some o:=fun b o e=>(I.bs b o e).1
theorem Inv.mod (I:Inv X pins σ H s):Mod X.K X.mg X.base:=I.ok.mod
theorem Inv.kIn (I:Inv X pins σ H s):X.K.In s.heap:=I.ok.mod.kin.keeps I.bk
theorem Inv.nolimit (I:Inv X pins σ H s):s.heap.NoLimit:=I.ok.mod.nolimit.keeps I.bk
theorem Inv.fr (I:Inv X pins σ H s):∃ m,Fr X.base X.env.locals s.heap m :=
 let ⟨m,hn,_⟩:=I.loc
 ⟨m,hn,I.bk,Nat.le_trans I.ok.bsz I.ok.above⟩
theorem Inv.lt (I:Inv X pins σ H s):X.env.locals<s.heap.objs.size:=let ⟨_,hn,_⟩:=I.loc; hn.lt
theorem Inv.sz (I:Inv X pins σ H s):X.s₀.heap.objs.size≤s.heap.objs.size:=Nat.le_trans I.ok.above (Nat.le_of_lt I.lt)
theorem Inv.nofs (I:Inv X pins σ H s) {a:Addr} (h:s.heap.objs.size≤a):a∉X.fs:=fun hb=>by
 obtain⟨_,o,ho,_⟩:=I.ok.funs.mem hb
 exact absurd (Nat.lt_of_lt_of_le (Heap.lt_size ho) (Nat.le_trans I.sz h)) (Nat.lt_irrefl _)
theorem Inv.cne (I:Inv X pins σ H s):∀ x c,X.env.cells.lookup x=some c->c≠X.env.locals:=fun x c e z=>by
 obtain⟨v,o,ho,hd⟩:=I.cell x c e
 obtain⟨m,⟨o',es,ep,ho',hd',_⟩,_⟩:=I.loc
 rw [z,ho'] at ho; cases ho; rw [hd'] at hd; cases hd
theorem Inv.funs (I:Inv X pins σ H s):s.heap.FunFrames X.base X.outer:=by
 have all:∀(l:List Env),(∀ b∈frs l,b∈X.fs)->X.s₀.heap.FunFrames X.base l->s.heap.FunFrames X.base l:=by
  intro l
  induction l with
  | nil=>intro _ _; trivial
  | cons env r ih =>
   intro hs hl
   obtain⟨hk,⟨L,o,hf,hn,ho,hd⟩,hr⟩:=hl
   have hL:L∈X.fs:=hs L (by unfold frs; rw [List.filterMap_cons,hf]; exact List.mem_cons_self)
   obtain⟨sl,e⟩:=I.base.slot L o ho (I.ok.frf L hL) hL fun z=>I.ok.exfs L z hL
   exact⟨hk,⟨L,_,hf,hn,e,hd⟩,ih (fun b hb=>hs b (by unfold frs; rw [List.filterMap_cons,hf]; exact List.mem_cons_of_mem _ hb)) hr⟩
 exact all X.outer (fun _ hb=>hb) I.ok.funs
theorem Inv.stack (I:Inv X pins σ H s):s.heap.FunFrames X.base X.stack:=by
 rcases I.ok.stk with e | ⟨e,hf⟩
 ·rw [e]; exact I.funs
 ·rw [e]
  obtain⟨m,hn,_⟩:=I.loc
  refine .cons (by rw [I.ok.kind]; decide) hf hn ?_ I.funs
  exact Heap.get?_none_of_le (Nat.le_trans I.ok.bsz I.ok.above)
theorem Inv.stkSub (I:Inv X pins σ H s):∀ b∈frs X.stack,b∈X.env.locals::X.fs:=fun b hb=>by
 rcases I.ok.stk with e | ⟨e,hf⟩
 ·rw [e] at hb; exact List.mem_cons_of_mem _ hb
 ·rw [e] at hb
  unfold frs at hb
  rw [List.filterMap_cons,hf] at hb
  exact hb
theorem Inv.stkFree (I:Inv X pins σ H s):∀ b∈frs X.stack,H b=none:=fun b hb=>by
 rcases List.mem_cons.mp (I.stkSub b hb) with e | hb
 ·rw [e]; exact I.free
 ·obtain⟨_,o,ho,_⟩:=I.ok.funs.mem hb
  exact I.base.free b o ho (I.ok.frf b hb) fun z=>I.ok.exfs b z hb
theorem Inv.step {g':Array GenState} {t':Nat} {d':Drawn} {ch:List Addr} (I:Inv X pins σ H s)
  (hch:∀ b∈ch,(b∈X.ex∨X.s₀.heap.objs.size≤b)∧b≠X.env.locals∧(∀ x c,X.env.cells.lookup x=some c->c≠b)∧∀ p∈X.pn++pins,p.1≠b)
  (keep:∀ b o,b≠X.env.locals->b∉X.fs->b∉ch->s.heap.get? b=some o->H b=none->h'.get? b=some o)
  (slot:∀ b o,b≠X.env.locals->b∈X.fs->b∉ch->s.heap.get? b=some o->H b=none->∃ sl,h'.get? b=some { o with slots:=sl }) (free:∀ b o,b∉ch->s.heap.get? b=some o->H b=none->H' b=none)
  (there:∀ b o,b∉ch->s.heap.get? b=some o->∃ o',h'.get? b=some o')
  (tups:∀ b xs,H b=some (.tup xs)->H' b=some (.tup xs)) (frzs:∀ b o u,H b=some (.frz o u)->H' b=some (.frz o u)) (tbls:∀ b ps,H b=some (.tbl ps)->∃ more,H' b=some (.tbl (ps++more)))
  (ns:∀ m,s.heap.Ns X.env.locals m->h'.Ns X.env.locals m) (hok:HOk X.prog X.w H' h') (hg:AllBare g') :
  Inv X pins σ H' { s with heap:=h',gens:=g',drawn:=d',toks:=t' }:=by
 have neL:∀ b o,X.s₀.heap.get? b=some o->b≠X.env.locals:=fun b o e=>Nat.ne_of_lt (Nat.lt_of_lt_of_le (Heap.lt_size e) I.ok.above)
 have neC:∀ b o,X.s₀.heap.get? b=some o->b∉X.ex->b∉ch:=fun b o e hx hb=>by
  rcases(hch b hb).1 with z | z
  ·exact hx z
  ·exact absurd (Nat.lt_of_lt_of_le (Heap.lt_size e) z) (Nat.lt_irrefl _)
 have cellK:∀ x c,X.env.cells.lookup x=some c->∀ v,s.heap.IsCell c v->h'.IsCell c v:=fun x c e v ⟨o,ho,hd⟩=>by
  have nch:c∉ch:=fun z=>(hch c z).2.2.1 x c e rfl
  by_cases hc:c∈X.fs
  ·obtain⟨sl,q⟩:=slot c o (I.cne x c e) hc nch ho (I.freeC x c e)
   exact⟨_,q,hd⟩
  ·exact⟨o,keep c o (I.cne x c e) hc nch ho (I.freeC x c e),hd⟩
 refine⟨I.ok,I.os,hg,⟨fun b o e n hb hx=>?_,fun b o e n hb hx=>?_,fun b o e n hx=>?_,fun b o e hx=>?_,fun b xs e=>tups b xs (I.base.tups b xs e),fun b o xs e=>frzs b o xs (I.base.frzs b o xs e),fun b ps e=>?_⟩,?_,fun x c e=>?_,?_,fun x c e=>?_,fun p hp=>?_,hok,I.len⟩
 ·exact keep b o (neL b o e) hb (neC b o e hx) (I.base.keep b o e n hb hx) (I.base.free b o e n hx)
 ·obtain⟨sl,e1⟩:=I.base.slot b o e n hb hx
  obtain⟨sl',e2⟩:=slot b _ (neL b o e) hb (neC b o e hx) e1 (I.base.free b o e n hx)
  exact⟨sl',e2⟩
 ·obtain⟨o',e1⟩:=I.base.there b o e hx
  exact free b o' (neC b o e hx) e1 (I.base.free b o e n hx)
 ·obtain⟨o',e1⟩:=I.base.there b o e hx
  exact there b o' (neC b o e hx) e1
 ·obtain⟨m1,e1⟩:=I.base.tbls b ps e
  obtain⟨m2,e2⟩:=tbls b _ e1
  exact⟨m1++m2,by rw [e2,Array.append_assoc]⟩
 ·obtain⟨m,hn,hl⟩:=I.loc
  refine⟨m,ns m hn,fun i x v e1 e2 e3=>?_⟩
  obtain⟨u,r,l⟩:=hl i x v e1 e2 e3
  refine⟨u,r,?_⟩
  rcases l with l | ⟨k,c,e,z⟩
  ·exact .inl l
  ·exact .inr ⟨k,c,e,cellK x c e _ z⟩
 ·obtain⟨v,z⟩:=I.cell x c e
  exact⟨v,cellK x c e v z⟩
 ·obtain⟨m,⟨o,_,_,ho,_⟩,_⟩:=I.loc
  exact free _ o (fun z=>(hch _ z).2.1 rfl) ho I.free
 ·obtain⟨v,o,ho,hd⟩:=I.cell x c e
  exact free c o (fun z=>(hch c z).2.2.1 x c e rfl) ho (I.freeC x c e)
 ·obtain⟨e,n,ne,nf,d⟩:=I.pin p hp
  have nch:p.1∉ch:=fun z=>(hch p.1 z).2.2.2 p hp rfl
  exact⟨keep p.1 p.2 ne nf nch e n,free p.1 p.2 nch e n,ne,nf,d⟩
theorem Inv.un {t':Nat} (I:Inv X pins σ H s) (u:Un X.fs [] H H' s.heap h') (hok:HOk X.prog X.w H' h'):Inv X pins σ H' { s with heap:=h',toks:=t' }:=by
 obtain⟨m,⟨o,es,ep,ho,r⟩,_⟩:=id I.loc
 obtain⟨sl,hL⟩:=u.any ho I.free (by simp)
 exact I.step (g':=s.gens) (d':=s.drawn) (ch:=[]) (fun _ z=>nomatch z) (fun b o _ hb _ e n=>u.keep b o e n hb (by simp)) (fun b o _ hb _ e n=>u.slot b o e n hb (by simp)) (fun b o _ e n=>u.free b o e n (by simp)) (fun b o _ e=>u.there b o e (by simp)) u.tups u.frzs u.tbls (fun m' hm=>by
  obtain⟨o',es',ep',ho',r'⟩:=hm
  rw [ho] at ho'; cases ho'
  exact⟨_,es',ep',hL,r'⟩) hok I.bare
theorem Inv.call {g':Array GenState} {t':Nat} {d':Drawn} {ch:List Addr} (I:Inv X pins σ H s) (u:Un (frs X.stack) ch H H' s.heap h') (hok:HOk X.prog X.w H' h') (hg:AllBare g')
  (hch:∀ b∈ch,(b∈X.ex∨X.s₀.heap.objs.size≤b)∧b≠X.env.locals∧(∀ x c,X.env.cells.lookup x=some c->c≠b)∧∀ p∈X.pn++pins,p.1≠b) :
  Inv X pins σ H' { s with heap:=h',gens:=g',drawn:=d',toks:=t' }:=by
 obtain⟨m,⟨o,es,ep,ho,r⟩,_⟩:=id I.loc
 obtain⟨sl,hL⟩:=u.any ho I.free fun z=>(hch _ z).2.1 rfl
 exact I.step (ch:=ch) hch (fun b o hL hb hc e n=>u.keep b o e n (fun z=>(List.mem_cons.mp (I.stkSub b z)).elim hL hb) hc) (fun b o _ _ hc e n=>u.any e n hc) (fun b o hc e n=>u.free b o e n hc) (fun b o hc e=>u.there b o e hc) u.tups u.frzs u.tbls (fun m' hm=>by
  obtain⟨o',es',ep',ho',r'⟩:=hm
  rw [ho] at ho'; cases ho'
  exact⟨_,es',ep',hL,r'⟩) hok hg
theorem Inv.turned {t':Nat} {it:Addr} (I:Inv X pins σ H s) (k:∀ b o,b≠it->s.heap.get? b=some o->h'.get? b=some o) (hn:H it=none) (hL:it≠X.env.locals)
  (h1:it∈X.ex∨X.s₀.heap.objs.size≤it) (h2:∀ x c,X.env.cells.lookup x=some c->c≠it) (h3:∀ p∈X.pn++pins,p.1≠it):Inv X pins σ H { s with heap:=h',toks:=t' }:=by
 have nit:∀ b u,H b=some u->b≠it:=fun b u e z=>by rw [z,hn] at e; cases e
 refine I.step (g':=s.gens) (d':=s.drawn) (ch:=[it]) (fun b hb=>?_) (fun b o _ _ hc e _=>k b o (fun z=>hc (by simp [z])) e) (fun b o _ _ hc e _=>⟨o.slots,k b o (fun z=>hc (by simp [z])) e⟩) (fun _ _ _ _ n=>n)
  (fun b o hc e=>⟨o,k b o (fun z=>hc (by simp [z])) e⟩) (fun _ _ e=>e) (fun _ _ _ e=>e) (fun b ps e=>⟨#[],by rw [e]; simp⟩) (fun m hm=>?_) (fun b u e=>?_) I.bare
 ·have e:b=it:=by simpa using hb
  subst e
  exact⟨h1,hL,h2,h3⟩
 ·obtain⟨o,es,ep,ho,r⟩:=hm
  exact⟨o,es,ep,k _ o (Ne.symm hL) ho,r⟩
 ·refine(I.hok b u e).stay (fun c v hc q=>k c v ?_ q) (fun _ q=>q) fun _ _ q=>q
  rcases hc with z | z
  ·rw [z]; exact nit b u e
  ·exact nit c _ z
theorem Inv.tok (I:Inv X pins σ H s) (t:Nat):Inv X pins σ H { s with toks:=t }:=I.un (h':=s.heap) (t':=t) Un.refl I.hok
theorem Inv.kept {t':Nat} (I:Inv X pins σ H s) (k:∀ b u,s.heap.get? b=some u->h'.get? b=some u):Inv X pins σ H { s with heap:=h',toks:=t' }:=I.un (Un.kept k) (I.hok.kept k)
theorem Inv.laid {a:Addr} {o:HO} {t':Nat} (I:Inv X pins σ H s) (k:∀ b u,s.heap.get? b=some u->h'.get? b=some u) (hp:s.heap.objs.size≤a) (new:ObjOk X.prog X.w (upd H a o) h' a o) :
  Inv X pins σ (upd H a o) { s with heap:=h',toks:=t' }:=I.un (Un.laid k hp (I.hok.fresh hp)) (I.hok.laid k hp new)
theorem Inv.write {x e:Addr} {o:HO} {t':Nat} (I:Inv X pins σ H s) (mu:Mut (H x)) (he:e=x∨H e=some (.own x)) (k:∀ b u,b≠e->s.heap.get? b=some u->h'.get? b=some u) (heo:∃ u,h'.get? e=some u)
  (new:ObjOk X.prog X.w (upd H x o) h' x o):Inv X pins σ (upd H x o) { s with heap:=h',toks:=t' }:=I.un (Un.write mu he k heo) (I.hok.write mu he k heo new)
theorem Inv.pins_of {pins':List (Addr×Obj)} (I:Inv X pins σ H s) (h:∀ p∈pins',s.heap.get? p.1=some p.2∧H p.1=none∧p.1≠X.env.locals∧p.1∉X.fs∧∀ v,p.2.data≠.cell v):Inv X pins' σ H s :=
 ⟨I.ok,I.os,I.bare,I.base,I.loc,I.cell,I.free,I.freeC,fun p hp=>(List.mem_append.mp hp).elim (fun z=>I.pin p (List.mem_append_left _ z)) (h p),I.hok,I.len⟩
theorem QdV {N:List Str} (hN:N.Nodup) {i j:Nat} {x:Str} (a:N[i]?=some x) (b:N[j]?=some x):i=j:=by
 obtain⟨h1,e1⟩:=List.getElem?_eq_some_iff.mp a
 obtain⟨h2,e2⟩:=List.getElem?_eq_some_iff.mp b
 exact(List.getElem_inj hN).mp (e1.trans e2.symm)
theorem Qfl {M:Model} {A:Around} {E:Value->Shared->Prop} {i:Nat} {x:Str} {v:V} {u:Value} {Q:Unit->Shared->Prop} (I:Inv X pins σ H s) (hN:X.N.Nodup) (hi:X.N[i]?=some x) (hx:Loc X.env.scope x) (r:RelV v u)
  (h:∀ s',Inv X pins (σ.set i (some v)) H s'->(∃ a,Heap.SameBut a s.heap s'.heap∧(a=X.env.locals∨X.env.cells.lookup x=some a))->Q () s') (hf:X.fn x=true∨X.env.scope.names.lookup x=some .local:=by first | exact .inl rfl | exact .inr rfl | assumption):wpAny M A (storeName X.env x u) Q E s:=by
 obtain⟨m,hn,hl⟩:=id I.loc
 have hcls:(X.env.scope.kind == .class || (X.env.scope.kind == .module && X.env.locals != X.env.globals))=false:=by rw [I.ok.kind]; rfl
 have hiσ:i<σ.length:=by rw [I.len]; exact(List.getElem?_eq_some_iff.mp hi).1
 have cne:=I.cne
 have tracked:∀ {a:Addr} {h':Heap},(∃ o,s.heap.get? a=some o∧H a=none)->Heap.SameBut a s.heap h'->HOk X.prog X.w H h':=fun {a h'} ha hs b ob e=>by
  obtain⟨_,_,hfree⟩:=ha
  refine(I.hok b ob e).stay (fun c w' hc q=>(hs.2 c ?_).trans q) (fun _ q=>q) fun _ _ q=>q
  rintro rfl
  rcases hc with rfl | hc
  ·rw [hfree] at e; cases e
  ·rw [hfree] at hc; cases hc
 rcases hx with hk | hk
 ·refine wpAny_storeName_local hk hn (fun h' hn' hs=>?_) hcls
  obtain⟨oL,_,_,hoL,_⟩:=id hn
  refine h _ ⟨I.ok,I.os,I.bare,⟨fun b o e n hb hx=>?_,fun b o e n hb hx=>?_,I.base.free,fun b o e hx=>?_,I.base.tups,I.base.frzs,I.base.tbls⟩,⟨_,hn',fun j y v' e1 e2 e3=>?_⟩,fun y c e=>?_,I.free,I.freeC,fun p hp=>?_,tracked ⟨oL,hoL,I.free⟩ hs,by simpa using I.len⟩ ⟨_,hs,.inl rfl⟩
  ·exact(hs.2 b (Nat.ne_of_lt (Nat.lt_of_lt_of_le (Heap.lt_size e) I.ok.above))).trans (I.base.keep b o e n hb hx)
  ·obtain⟨sl,e1⟩:=I.base.slot b o e n hb hx
   exact⟨sl,(hs.2 b (Nat.ne_of_lt (Nat.lt_of_lt_of_le (Heap.lt_size e) I.ok.above))).trans e1⟩
  ·obtain⟨o',e1⟩:=I.base.there b o e hx
   exact⟨o',(hs.2 b (Nat.ne_of_lt (Nat.lt_of_lt_of_le (Heap.lt_size e) I.ok.above))).trans e1⟩
  ·by_cases hj:j=i
   ·subst hj
    rw [hi] at e1; cases e1
    rw [List.getElem?_set_self hiσ] at e2
    cases e2
    exact⟨u,r,.inl ⟨hk,by simp⟩⟩
   ·rw [List.getElem?_set_ne (Ne.symm hj)] at e2
    obtain⟨u',r',q⟩:=hl j y v' e1 e2 e3
    refine⟨u',r',?_⟩
    rcases q with⟨k,e⟩ | ⟨k,c,e,z⟩
    ·refine .inl ⟨k,?_⟩
     have:y≠x:=fun e=>hj (QdV hN e1 (e ▸ hi))
     simp [this,e]
    ·exact .inr ⟨k,c,e,z.sameBut hs (cne y c e)⟩
  ·obtain⟨w',z⟩:=I.cell y c e
   exact⟨w',z.sameBut hs (cne y c e)⟩
  ·obtain⟨e,n,ne,nf,d⟩:=I.pin p hp
   exact⟨(hs.2 p.1 ne).trans e,n,ne,nf,d⟩
 ·have hfn:X.fn x=true:=by
   rcases hf with z | z
   ·exact z
   ·rw [z] at hk; cases hk
  obtain⟨c,hc⟩:=I.ok.has x (.inl hk)
  obtain⟨w',z⟩:=I.cell x c hc
  refine wpAny_storeName_cell I.ok.kind hk hc z (fun h' hc' hs=>?_)
  obtain⟨oc,hoc,hocd⟩:=id z
  refine h { s with heap:=h' } ⟨I.ok,I.os,I.bare,⟨fun b o e n hb hx=>?_,fun b o e n hb hx=>?_,I.base.free,fun b o e hx=>?_,I.base.tups,I.base.frzs,I.base.tbls⟩,⟨m,hn.sameBut hs (Ne.symm (cne x c hc)),fun j y v' e1 e2 e3=>?_⟩,fun y c' e=>?_,I.free,I.freeC,fun p hp=>?_,tracked ⟨oc,hoc,I.freeC x c hc⟩ hs,by simpa using I.len⟩ ⟨c,hs,.inr hc⟩
  ·exact(hs.2 b (Nat.ne_of_lt (Nat.lt_of_lt_of_le (Heap.lt_size e) (I.ok.cab x c hfn hc)))).trans (I.base.keep b o e n hb hx)
  ·obtain⟨sl,e1⟩:=I.base.slot b o e n hb hx
   exact⟨sl,(hs.2 b (Nat.ne_of_lt (Nat.lt_of_lt_of_le (Heap.lt_size e) (I.ok.cab x c hfn hc)))).trans e1⟩
  ·obtain⟨o',e1⟩:=I.base.there b o e hx
   exact⟨o',(hs.2 b (Nat.ne_of_lt (Nat.lt_of_lt_of_le (Heap.lt_size e) (I.ok.cab x c hfn hc)))).trans e1⟩
  ·by_cases hj:j=i
   ·subst hj
    rw [hi] at e1; cases e1
    rw [List.getElem?_set_self hiσ] at e2
    cases e2
    exact⟨u,r,.inr ⟨.inl hk,c,hc,hc'⟩⟩
   ·rw [List.getElem?_set_ne (Ne.symm hj)] at e2
    obtain⟨u',r',q⟩:=hl j y v' e1 e2 e3
    refine⟨u',r',?_⟩
    rcases q with q | ⟨k,c',e,z'⟩
    ·exact .inl q
    ·refine .inr ⟨k,c',e,z'.sameBut hs ?_⟩
     rintro rfl
     exact hj (QdV hN e1 (I.ok.inj _ _ _ e hc ▸ hi))
  ·by_cases hcc:c'=c
   ·subst hcc; exact⟨_,hc'⟩
   ·obtain⟨w2,z2⟩:=I.cell y c' e
    exact⟨w2,z2.sameBut hs hcc⟩
  ·obtain⟨e,n,ne,nf,d⟩:=I.pin p hp
   refine⟨(hs.2 p.1 ?_).trans e,n,ne,nf,d⟩
   intro q
   rw [q,hoc] at e
   have q':oc=p.2:=Option.some.inj e
   exact d w' (by rw [← q']; exact hocd)
theorem QaT {M:Model} {A:Around} {E:Value->Shared->Prop} {i:Nat} {x:Str} {v:V} {u:Value} {Q:Unit->Shared->Prop} (I:Inv X pins σ H s) (hN:X.N.Nodup) (hi:X.N[i]?=some x) (hx:Loc X.env.scope x) (r:RelV v u)
  (h:∀ s',Inv X pins (σ.set i (some v)) H s'->Q () s') (hf:X.fn x=true∨X.env.scope.names.lookup x=some .local:=by first | exact .inl rfl | exact .inr rfl | assumption):wpAny M A (storeName X.env x u) Q E s :=
 Qfl I hN hi hx r (fun s' I' _=>h s' I') hf
theorem Inv.call' {s':Shared} {ch:List Addr} (I:Inv X pins σ H s) (ho:s'.os=s.os) (u:Un (frs X.stack) ch H H' s.heap s'.heap) (hok:HOk X.prog X.w H' s'.heap) (hg:AllBare s'.gens)
  (hch:∀ b∈ch,(b∈X.ex∨X.s₀.heap.objs.size≤b)∧b≠X.env.locals∧(∀ x c,X.env.cells.lookup x=some c->c≠b)∧∀ p∈X.pn++pins,p.1≠b):Inv X pins σ H' s':=by
 obtain⟨h',g',d',t',o'⟩:=s'
 have e:o'=s.os:=ho
 subst e
 exact I.call (g':=g') (t':=t') (d':=d') u hok hg hch
end
noncomputable abbrev XK:=Value->Option Addr->Hp->Prop
noncomputable abbrev St:=List (Option V)
noncomputable abbrev VK:=V->Hp->Prop
noncomputable abbrev TE:=St->Hp->VK->Prop
noncomputable abbrev TT:=St->Hp->(Bool->Hp->Prop)->Prop
noncomputable abbrev TA:=St->Hp->(List V->Hp->Prop)->Prop
structure Ends where
 nx:St->Hp->Prop
 rt:VK
 bk:St->Hp->Prop:=fun _ _=>False
 ct:St->Hp->Prop:=fun _ _=>False
noncomputable abbrev TS:=Ends->St->Hp->Prop
noncomputable def EP (X:Cx) (pins:List (Addr×Obj)) (σ:St) (Q:VK) (u:Value) (s':Shared):Prop:=∃ v H',Inv X pins σ H' s'∧RelV v u∧Q v H'
noncomputable def TP (X:Cx) (pins:List (Addr×Obj)) (σ:St) (Q:Bool->Hp->Prop) (b:Bool) (s':Shared):Prop:=∃ H',Inv X pins σ H' s'∧Q b H'
noncomputable def AP (X:Cx) (pins:List (Addr×Obj)) (σ:St) (Q:List V->Hp->Prop) (us:List Value) (s':Shared):Prop:=∃ vs H',Inv X pins σ H' s'∧Vals vs us∧Q vs H'
noncomputable def SP (X:Cx) (pins:List (Addr×Obj)) (D:Ends) (f:Flow) (s':Shared):Prop :=
 match f with
 | .next=>∃ σ' H',Inv X pins σ' H' s'∧D.nx σ' H'
 | .brk=>∃ σ' H',Inv X pins σ' H' s'∧D.bk σ' H'
 | .cont=>∃ σ' H',Inv X pins σ' H' s'∧D.ct σ' H'
 | .ret u=>∃ v σ' H',Inv X pins σ' H' s'∧RelV v u∧D.rt v H'
noncomputable def PE (X:Cx) (e:Expr) (t:TE):Prop :=
 ∀(pins:List (Addr×Obj)) (s:Shared) (σ:St) (H:Hp) (Q:VK),Inv X pins σ H s->t σ H Q->wpAny (model X.prog X.w) X.A (eval e X.env) (EP X pins σ Q) X.xe s
noncomputable def PT (X:Cx) (e:Expr) (t:TT):Prop :=
 ∀(pins:List (Addr×Obj)) (s:Shared) (σ:St) (H:Hp) (Q:Bool->Hp->Prop),Inv X pins σ H s->t σ H Q->wpAny (model X.prog X.w) X.A (isTrue e X.env (eval e X.env)) (TP X pins σ Q) X.xe s
noncomputable def PW (X:Cx) (e:Expr) (t:TT):Prop :=
 ∀(whole:Sem Value) (pins:List (Addr×Obj)) (s:Shared) (σ:St) (H:Hp) (Q:Bool->Hp->Prop),Inv X pins σ H s->t σ H Q->wpAny (model X.prog X.w) X.A (isTrue e X.env whole) (TP X pins σ Q) X.xe s
theorem PW.pt {X:Cx} {e:Expr} {t:TT} (h:PW X e t):PT X e t:=h _
noncomputable def PA (X:Cx) (es:List Expr) (t:TA):Prop :=
 ∀(pos:Pos) (pins:List (Addr×Obj)) (s:Shared) (σ:St) (H:Hp) (Q:List V->Hp->Prop),Inv X pins σ H s->t σ H Q->wpAny (model X.prog X.w) X.A (spliced (backTo pos (starEach es X.env))) (AP X pins σ Q) X.xe s
noncomputable def PS (X:Cx) (st:Stmt) (t:TS):Prop :=
 ∀(pins:List (Addr×Obj)) (s:Shared) (σ:St) (H:Hp) (D:Ends),Inv X pins σ H s->t D σ H->wpAny (model X.prog X.w) X.A (exec st X.env) (SP X pins D) X.xe s
noncomputable def PSs (X:Cx) (st:List Stmt) (t:TS):Prop :=
 ∀(pins:List (Addr×Obj)) (s:Shared) (σ:St) (H:Hp) (D:Ends),Inv X pins σ H s->t D σ H->wpAny (model X.prog X.w) X.A (execs st X.env) (SP X pins D) X.xe s
theorem thn {α:Type} {t:Sem α} {Q Q':α->Shared->Prop} {M:Model} {A:Around} {E:Value->Shared->Prop} {s:Shared} (h:wpAny M A t Q E s) (hQ:∀ a s,Q a s->Q' a s):wpAny M A t Q' E s:=wpAny_mono h hQ fun _ _ x=>x
end L2
namespace L2
open PySem PySem.Spec PyProof.Rows
section
variable {X:Cx}
noncomputable def tVar (i:Nat):TE:=fun σ H Q=>∃ v,σ[i]?=some (some v)∧Q v H
noncomputable def tC (v:V):TE:=fun _ H Q=>Q v H
theorem Qjp {i:Nat} {x:Str} {pos:Pos} (hN:X.N[i]?=some x) (hv:Vis X.env.scope x) (hd:(x == ("__debug__" : Str))=false:=by decide) (hcd:(x == ("__classdict__" : Str))=false:=by decide):PE X (.Name x pos) (tVar i):=by
 intro pins s σ H Q I h
 obtain⟨v,e,h⟩:=h
 obtain⟨m,hn,hl⟩:=I.loc
 obtain⟨u,r,l⟩:=hl i x v hN e hv
 have fin:EP X pins σ Q u s:=⟨v,H,I,r,h⟩
 rcases l with⟨hk,hm⟩ | ⟨hk,c,hc,hcell⟩
 ·exact wpAny_Name (wpAny_loadName_local I.ok.kind hk hn hm fin) hd
 ·rcases hk with hk | hk
  ·exact wpAny_Name (wpAny_loadName_cell I.ok.kind hk hc hcell fin) hd
  ·exact wpAny_Name (wpAny_loadName_free I.ok.kind hk hc hcell fin hcd) hd
theorem Qjq {i j pos}:PE X (.Constant (.int i) j pos) (tC (.int i)):=fun _ _ _ H _ I h=>wpAny_Constant_int ⟨.int i,H,I.tok _,⟨_,rfl⟩,h⟩
theorem QkZ {b j pos}:PE X (.Constant (.bool b) j pos) (tC (.bl b)):=fun _ _ _ H _ I h=>Constant_bool ⟨.bl b,H,I,rfl,h⟩
theorem Qjr {j pos}:PE X (.Constant .none j pos) (tC .non):=fun _ _ _ H _ I h=>Constant_none ⟨.non,H,I,rfl,h⟩
theorem Qjs {x j pos}:PE X (.Constant (.str x) j pos) (tC (.str x)):=fun _ _ _ H _ I h=>Calls.Constant_str ⟨.str x,H,I.tok _,⟨_,rfl⟩,h⟩
noncomputable def Gl (X:Cx) (x:Str):Prop:=X.env.kindOf x=some .globalImplicit
theorem Qa5 {E:Value->Shared->Prop} {pins:List (Addr×Obj)} {s:Shared} {σ:St} {H:Hp} {x:Str} {u:Value} {pos:Pos} {Q:Value->Shared->Prop} (I:Inv X pins σ H s) (hg:Gl X x) (hm:X.mg x=some u) (h:Q u s)
  (hd:(x == ("__debug__" : Str))=false:=by decide):wpAny (model X.prog X.w) X.A (eval (.Name x pos) X.env) Q E s :=
 Calls.Name_function_global I.ok.kind hg (Calls.loadGlobal_global (by rw [I.ok.glob]; exact I.mod.glob.keeps I.bk) hm h) hd
theorem Qa6 {E:Value->Shared->Prop} {pins:List (Addr×Obj)} {s:Shared} {σ:St} {H:Hp} {x:Str} {u:Value} {pos:Pos} {Q:Value->Shared->Prop} (I:Inv X pins σ H s) (hg:Gl X x) (hm:X.mg x=none) (hv:bootBuiltins x=some u) (h:Q u s)
  (hn:x ≠ "__name__":=by decide) (hd:(x == ("__debug__" : Str))=false:=by decide):wpAny (model X.prog X.w) X.A (eval (.Name x pos) X.env) Q E s:=by
 obtain⟨mb,h1,h2⟩:=I.mod.blt
 exact Calls.Name_function_global I.ok.kind hg (Calls.loadGlobal_builtin (by rw [I.ok.glob]; exact I.mod.glob.keeps I.bk) hm (by rw [I.ok.blt]; exact h1.keeps I.bk) ((h2 x hn).trans hv) h) hd
theorem Qig {x:Str} {v:V} {u:Value} {pos:Pos} (hg:Gl X x) (hm:X.mg x=some u) (r:RelV v u) (hd:(x == ("__debug__" : Str))=false:=by decide):PE X (.Name x pos) (tC v) :=
 fun _ _ _ H _ I h=>Qa5 I hg hm ⟨v,H,I,r,h⟩ hd
theorem Qdk {x:Str} {v:V} {u:Value} {pos:Pos} (hg:Gl X x) (hm:X.mg x=none) (hv:bootBuiltins x=some u) (r:RelV v u) (hn:x ≠ "__name__":=by decide) (hd:(x == ("__debug__" : Str))=false:=by decide):PE X (.Name x pos) (tC v) :=
 fun _ _ _ H _ I h=>Qa6 I hg hm hv ⟨v,H,I,r,h⟩ hn hd
variable {a b:Expr} {ta tb:TE} {pos:Pos}
noncomputable def tB (t:TE):TT:=fun σ H Q=>t σ H fun x H1=>∃ c,x=.bl c∧Q c H1
theorem Qjt {e:Expr} {t:TE} (h:PE X e t) (he:∀ whole,isTrue e X.env whole=(do let v ← whole; standAt e.pos; holding [v] (truthy v)):=by intro _; rfl):PT X e (tB t):=by
 intro pins s σ H Q I hw
 refine isTrue_plain (thn (h pins s σ H _ I hw) fun v s1 ⟨x,H1,I1,r1,q1⟩=>?_) (he _)
 obtain⟨d,rfl,q⟩:=q1
 cases r1
 exact wpAny_truthy_bool ⟨H1,I1,q⟩
variable {tA tB':TT} {rest:List Expr}
noncomputable def tAnd (t u:TT):TT:=fun σ H Q=>t σ H fun c H1=>if c=true then u σ H1 Q else Q false H1
noncomputable def tOr (t u:TT):TT:=fun σ H Q=>t σ H fun c H1=>if c=true then Q true H1 else u σ H1 Q
noncomputable def tNot (t:TT):TT:=fun σ H Q=>t σ H fun c H1=>Q (!c) H1
theorem Qih (ha:PT X a tA):PW X (.BoolOp .And [a] pos) tA:=by
 intro wh pins s σ H Q I h
 refine isTrue_and (thn (ha pins s σ H Q I h) fun c s1 e=>?_)
 cases c with
 | true=>exact isTrue_and_nil e
 | false=>exact e
theorem Qju (ha:PT X a tA):PW X (.BoolOp .Or [a] pos) tA:=by
 intro wh pins s σ H Q I h
 refine isTrue_or (thn (ha pins s σ H Q I h) fun c s1 e=>?_)
 cases c with
 | false=>exact isTrue_or_nil e
 | true=>exact e
theorem Qjv (ha:PT X a tA) (hb:PW X (.BoolOp .And (b::rest) pos) tB'):PW X (.BoolOp .And (a::b::rest) pos) (tAnd tA tB'):=by
 intro wh pins s σ H Q I h
 refine isTrue_and (thn (ha pins s σ H _ I h) fun c s1 ⟨H1,I1,q1⟩=>?_)
 cases c with
 | true=>exact hb wh pins s1 σ H1 Q I1 q1
 | false=>exact⟨H1,I1,q1⟩
theorem Qk0 (ha:PT X a tA) (hb:PW X (.BoolOp .Or (b::rest) pos) tB'):PW X (.BoolOp .Or (a::b::rest) pos) (tOr tA tB'):=by
 intro wh pins s σ H Q I h
 refine isTrue_or (thn (ha pins s σ H _ I h) fun c s1 ⟨H1,I1,q1⟩=>?_)
 cases c with
 | true=>exact⟨H1,I1,q1⟩
 | false=>exact hb wh pins s1 σ H1 Q I1 q1
theorem Qjw (ha:PT X a tA):PT X (.UnaryOp .Not a pos) (tNot tA):=by
 intro pins s σ H Q I h
 exact isTrue_not (ha pins s σ H (fun c H1=>Q (!c) H1) I h)
noncomputable def Qk1 (ta tb:TE):TE:=fun σ H Q=>ta σ H fun x H1=>∃ c,x=.bl c∧if c=true then tb σ H1 Q else Q (.bl false) H1
noncomputable def Qk2 (ta:TE):TE:=fun σ H Q=>ta σ H fun x H1=>∃ c,x=.bl c∧Q (.bl (!c)) H1
theorem Qjx {op} {t:TE} (h:PE X a t):PE X (.BoolOp op [a] pos) t:=fun pins s σ H Q I hw=>BoolOp_one (h pins s σ H Q I hw)
theorem Qjy (ha:PE X a ta) (hb:PE X (.BoolOp .And (b::rest) pos) tb):PE X (.BoolOp .And (a::b::rest) pos) (Qk1 ta tb):=by
 intro pins s σ H Q I h
 refine BoolOp_and (thn (ha pins s σ H _ I h) fun v s1 ⟨x,H1,I1,r1,q1⟩=>?_)
 obtain⟨c,rfl,q1⟩:=q1
 cases r1
 refine wpAny_truthy_bool ?_
 cases c with
 | true=>exact hb pins s1 σ H1 Q I1 q1
 | false=>exact⟨.bl false,H1,I1,rfl,q1⟩
theorem Qjz (ha:PE X a ta):PE X (.UnaryOp .Not a pos) (Qk2 ta):=by
 intro pins s σ H Q I h
 refine UnaryOp_ (thn (ha pins s σ H _ I h) fun v s1 ⟨x,H1,I1,r1,q1⟩=>?_)
 obtain⟨c,rfl,q1⟩:=q1
 cases r1
 exact not_of (wpAny_truthy_bool ⟨.bl (!c),H1,I1,rfl,q1⟩)
noncomputable def tIf (t:TT) (ta tb:TE):TE:=fun σ H Q=>t σ H fun c H1=>if c=true then ta σ H1 Q else tb σ H1 Q
theorem QgY {c:Expr} (hc:PT X c tA) (ha:PE X a ta) (hb:PE X b tb):PE X (.IfExp c a b pos) (tIf tA ta tb):=by
 intro pins s σ H Q I h
 refine wpAny_IfExp (thn (hc pins s σ H _ I h) fun d s1 ⟨H1,I1,q1⟩=>?_)
 cases d with
 | true=>exact ha pins s1 σ H1 Q I1 q1
 | false=>exact hb pins s1 σ H1 Q I1 q1
end
end L2
namespace L2
open PySem PySem.Spec PyProof.Rows
noncomputable def SqL (K:PySem.W.Frag) (H:Hp) (a:Addr) (xs:List V):Prop :=
 Rd H a (.lst xs) ∨
  ∃(o:Obj) (its:Array Value) (n:Nat),K.lookup a=some o∧o.cls=.type "list" ∧ o.dict=none∧o.data=.seq its n∧its.size≤sizeLine∧Vals xs its.toList
noncomputable def SqT (K:PySem.W.Frag) (H:Hp) (a:Addr) (xs:List V):Prop :=
 Rd H a (.tup xs) ∨
  ∃(o:Obj) (its:Array Value) (n:Nat),K.lookup a=some o∧o.cls=.type "tuple" ∧ o.data=.seq its n∧its.size≤sizeLine∧Vals xs its.toList
noncomputable def absV:Value->Option V
 | .none=>some .non
 | .bool b=>some (.bl b)
 | .int i _=>some (.int i)
 | .str x _=>some (.str x)
 | .bytes b _=>some (.byt b)
 | .float b _=>some (.flt b)
 | .ref a=>some (.ref a)
 | .type n=>some (.ty n)
 | _=>none
theorem RelV.abs {x:V} {u:Value} (r:RelV x u):absV u=some x:=by
 cases x with
 | non=>cases r; rfl
 | bl _=>cases r; rfl
 | int _=>obtain⟨t,rfl⟩:=r; rfl
 | str _=>obtain⟨t,rfl⟩:=r; rfl
 | byt _=>obtain⟨t,rfl⟩:=r; rfl
 | flt _=>obtain⟨t,rfl⟩:=r; rfl
 | ref _=>cases r; rfl
 | ty _=>cases r; rfl
theorem RelV.inj {x y:V} {u:Value} (r:RelV x u) (q:RelV y u):x=y:=Option.some.inj (r.abs.symm.trans q.abs)
theorem Vals.inj:∀ {xs ys:List V} {us:List Value},Vals xs us->Vals ys us->xs=ys
 | _,_,_,.nil,.nil=>rfl
 | _,_,_,.cons r t,.cons r' t'=>by rw [r.inj r',Vals.inj t t']
section
variable {X:Cx} {pins:List (Addr×Obj)} {σ:St} {H:Hp} {s:Shared} {a:Addr} {xs ys:List V}
theorem SqL.of {K:PySem.W.Frag} (h:H a=some (.lst xs)):SqL K H a xs:=.inl (.inl h)
theorem SqT.of {K:PySem.W.Frag} (h:H a=some (.tup xs)):SqT K H a xs:=.inl (.inl h)
theorem Inv.list (I:Inv X pins σ H s) (h:SqL X.K H a xs):∃ its:List Value,Vals xs its∧PlainL s.heap a its.toArray∧xs.length≤sizeLine:=by
 rcases h with h | ⟨o,its,n,hk,hc,hd,hs,hz,r⟩
 ·obtain⟨z,its,n,r,e⟩:=h.ok I.hok
  exact⟨its,r,⟨_,n,e,rfl,rfl,rfl⟩,z⟩
 ·refine⟨its.toList,r,⟨o,n,I.kIn a o hk,hc,hd,by simpa using hs⟩,?_⟩
  have e:=r.length
  simp only [Array.length_toList] at e
  omega
theorem Inv.tuple (I:Inv X pins σ H s) (h:SqT X.K H a xs):∃ its:List Value,Vals xs its∧IsTup s.heap a its.toArray∧xs.length≤sizeLine:=by
 rcases h with h | ⟨o,its,n,hk,hc,hs,hz,r⟩
 ·obtain⟨z,its,r,p⟩:=h.ok I.hok
  exact⟨its,r,p,z⟩
 ·refine⟨its.toList,r,⟨o,I.kIn a o hk,hc,n,by simpa using hs⟩,?_⟩
  have e:=r.length
  simp only [Array.length_toList] at e
  omega
theorem Inv.list_inj (I:Inv X pins σ H s) (h:SqL X.K H a xs) (h':SqL X.K H a ys):xs=ys:=by
 obtain⟨its,r,⟨o,n,e,_,_,d⟩,_⟩:=I.list h
 obtain⟨its',r',⟨o',n',e',_,_,d'⟩,_⟩:=I.list h'
 rw [e] at e'; cases e'
 rw [d] at d'
 injection d' with d1 _
 have:its=its':=by simpa using congrArg Array.toList d1
 subst this
 exact r.inj r'
theorem Inv.tuple_inj (I:Inv X pins σ H s) (h:SqT X.K H a xs) (h':SqT X.K H a ys):xs=ys:=by
 obtain⟨its,r,⟨o,e,_,n,d⟩,_⟩:=I.tuple h
 obtain⟨its',r',⟨o',e',_,n',d'⟩,_⟩:=I.tuple h'
 rw [e] at e'; cases e'
 rw [d] at d'
 injection d' with d1 _
 have:its=its':=by simpa using congrArg Array.toList d1
 subst this
 exact r.inj r'
end
noncomputable abbrev Cx.wish (X:Cx) (E:Value->Shared->Prop):Cx:={ X with xe:=E }
noncomputable abbrev Cx.nox (X:Cx):Cx:=X.wish fun _ _=>False
theorem Cx.Ok.wish {X:Cx} (ok:X.Ok) (E:Value->Shared->Prop):(X.wish E).Ok :=
 ⟨ok.mod,ok.kind,ok.glob,ok.blt,ok.above,ok.inj,ok.has,ok.cab,ok.hd,ok.frames,ok.stk,ok.exf,ok.bs,ok.bsz,ok.noex,ok.exfs,ok.funs,ok.frf⟩
theorem Cx.Ok.unwish {X:Cx} {E:Value->Shared->Prop} (ok:(X.wish E).Ok):X.Ok :=
 ⟨ok.mod,ok.kind,ok.glob,ok.blt,ok.above,ok.inj,ok.has,ok.cab,ok.hd,ok.frames,ok.stk,ok.exf,ok.bs,ok.bsz,ok.noex,ok.exfs,ok.funs,ok.frf⟩
section
variable {X:Cx} {pins:List (Addr×Obj)} {σ:St} {H:Hp} {s:Shared} {E:Value->Shared->Prop}
theorem Inv.wish (I:Inv X pins σ H s) (E:Value->Shared->Prop):Inv (X.wish E) pins σ H s:=⟨I.ok.wish E,I.os,I.bare,I.base,I.loc,I.cell,I.free,I.freeC,I.pin,I.hok,I.len⟩
theorem Inv.unwish (I:Inv (X.wish E) pins σ H s):Inv X pins σ H s:=⟨I.ok.unwish,I.os,I.bare,I.base,I.loc,I.cell,I.free,I.freeC,I.pin,I.hok,I.len⟩
theorem SP.unwish {D:Ends} {f:Flow} {s':Shared} (h:SP (X.wish E) pins D f s'):SP X pins D f s':=by
 cases f with
 | next=>obtain⟨σ',H',I,q⟩:=h; exact⟨σ',H',I.unwish,q⟩
 | brk=>obtain⟨σ',H',I,q⟩:=h; exact⟨σ',H',I.unwish,q⟩
 | cont=>obtain⟨σ',H',I,q⟩:=h; exact⟨σ',H',I.unwish,q⟩
 | ret u=>obtain⟨v,σ',H',I,r,q⟩:=h; exact⟨v,σ',H',I.unwish,r,q⟩
theorem PE.nox {e:Expr} {t:TE} (h:PE X.nox e t):PE X e t:=fun pins s σ H Q I hw =>
 wpAny_mono (h pins s σ H Q (I.wish _) hw) (fun _ _ ⟨v,H',I',r,q⟩=>⟨v,H',I'.unwish,r,q⟩) fun _ _ z=>False.elim z
theorem PT.nox {e:Expr} {t:TT} (h:PT X.nox e t):PT X e t:=fun pins s σ H Q I hw =>
 wpAny_mono (h pins s σ H Q (I.wish _) hw) (fun _ _ ⟨H',I',q⟩=>⟨H',I'.unwish,q⟩) fun _ _ z=>False.elim z
theorem PSs.nox {st:List Stmt} {t:TS} (h:PSs X.nox st t):PSs X st t:=fun pins s σ H D I hw =>
 wpAny_mono (h pins s σ H D (I.wish _) hw) (fun _ _ q=>q.unwish) fun _ _ z=>False.elim z
end
section
variable {X:Cx} {st:Stmt} {rest:List Stmt} {t u:TS} {e:Expr} {te:TE} {pos:Pos}
noncomputable def Qk3:TS:=fun D σ H=>D.nx σ H
noncomputable def tSeq (t u:TS):TS:=fun D σ H=>t { D with nx:=u D } σ H
theorem Qfm:PSs X [] Qk3:=fun _ _ σ H _ I h=>wpAny_execs_nil ⟨σ,H,I,h⟩
theorem QgZ (h1:PS X st t) (h2:PSs X rest u):PSs X (st::rest) (tSeq t u):=by
 intro pins s σ H D I h
 refine wpAny_execs_cons (thn (h1 pins s σ H { D with nx:=u D } I h) fun f s1 q=>?_)
 cases f with
 | next =>
  obtain⟨σ',H',I',q⟩:=q
  exact h2 pins s1 σ' H' D I' q
 | ret v=>exact q
 | brk=>exact q
 | cont=>exact q
theorem Qii (h1:PS X st t):PSs X [st] t:=by
 intro pins s σ H D I h
 refine wpAny_execs_cons (thn (h1 pins s σ H D I h) fun f s1 q=>?_)
 cases f with
 | next=>exact wpAny_execs_nil q
 | ret v=>exact q
 | brk=>exact q
 | cont=>exact q
theorem Inv.quiet {pins:List (Addr×Obj)} {σ:St} {H:Hp} {s:Shared} (I:Inv X pins σ H s):interactive X.env=false:=by simp [interactive,I.ok.kind]
noncomputable def Qk4 (te:TE):TS:=fun D σ H=>te σ H fun _ H1=>D.nx σ H1
theorem Qij (he:PE X e te) (hs:swapsWith e none pos.line X.env=pure false:=by rfl):PS X (.Expr e pos) (Qk4 te):=by
 intro pins s σ H D I h
 exact wpAny_Expr_any (thn (he pins s σ H _ I h) fun v s1 ⟨x,H1,I1,r1,q1⟩=>⟨σ,H1,I1,q1⟩) I.quiet hs
noncomputable def tRet (te:TE):TS:=fun D σ H=>te σ H D.rt
theorem QjA (he:PE X e te):PS X (.Return (some e) pos) (tRet te):=by
 intro pins s σ H D I h
 exact wpAny_Return_some (thn (he pins s σ H _ I h) fun v s1 ⟨x,H1,I1,r1,q1⟩=>⟨x,σ,H1,I1,r1,q1⟩)
noncomputable def Qk5:TS:=fun D _ H=>D.rt .non H
theorem Qik:PS X (.Return none pos) Qk5:=fun _ _ σ H _ I h=>wpAny_Return_none ⟨.non,σ,H,I,rfl,h⟩
noncomputable def tIfS (c:TT) (t u:TS):TS:=fun D σ H=>c σ H fun b H1=>if b=true then t D σ H1 else u D σ H1
theorem Qk6 {c:Expr} {a b:List Stmt} {tc:TT} (hc:PT X c tc) (ha:PSs X a t) (hb:PSs X b u):PS X (.If c a b pos) (tIfS tc t u):=by
 intro pins s σ H D I h
 refine wpAny_If (thn (hc pins s σ H _ I h) fun d s1 ⟨H1,I1,q1⟩=>?_)
 cases d with
 | true=>exact ha pins s1 σ H1 D I1 q1
 | false=>exact hb pins s1 σ H1 D I1 q1
noncomputable def QjB:TS:=fun _ _ _=>False
theorem Qg0:PS X st QjB:=fun _ _ _ _ _ _ h=>h.elim
end
noncomputable abbrev TG:=V->St->Hp->(St->Hp->Prop)->Prop
noncomputable abbrev TGs:=List V->St->Hp->(St->Hp->Prop)->Prop
noncomputable def PG (X:Cx) (target:Expr) (t:TG):Prop :=
 ∀(pins:List (Addr×Obj)) (s:Shared) (σ:St) (H:Hp) (v:V) (u:Value) (Q:St->Hp->Prop),Inv X pins σ H s->RelV v u->t v σ H Q ->
  wpAny (model X.prog X.w) X.A (assign target X.env u) (fun _ s'=>∃ σ' H',Inv X pins σ' H' s'∧Q σ' H') X.xe s
noncomputable def PGs (X:Cx) (ts:List Expr) (t:TGs):Prop :=
 ∀(pins:List (Addr×Obj)) (s:Shared) (σ:St) (H:Hp) (vs:List V) (us:List Value) (Q:St->Hp->Prop),Inv X pins σ H s->Vals vs us->t vs σ H Q ->
  wpAny (model X.prog X.w) X.A (assignInOrder ((assignEach ts X.env).map (·.2)) us) (fun _ s'=>∃ σ' H',Inv X pins σ' H' s'∧Q σ' H') X.xe s
noncomputable abbrev TSet:=V->V->V->Hp->(Hp->Prop)->Prop
noncomputable def PSet (X:Cx) (t:TSet):Prop :=
 ∀(pins:List (Addr×Obj)) (s:Shared) (σ:St) (H:Hp) (o i v:V) (ov iv u:Value) (Q:Hp->Prop),Inv X pins σ H s->RelV o ov->RelV i iv->RelV v u->t o i v H Q ->
  wpAny (model X.prog X.w) X.A (setItem ov iv u) (fun _ s'=>∃ H',Inv X pins σ H' s'∧Q H') X.xe s
section
variable {X:Cx} {pos:Pos}
noncomputable def QjC (i:Nat):TG:=fun v σ H Q=>Q (σ.set i (some v)) H
theorem Qil {i:Nat} {x:Str} (hN:X.N.Nodup) (hi:X.N[i]?=some x) (hx:Loc X.env.scope x) (hf:X.fn x=true∨X.env.scope.names.lookup x=some .local:=by first | exact .inl rfl | exact .inr rfl | assumption):PG X (.Name x pos) (QjC i):=by
 intro pins s σ H v u Q I r h
 exact wpAny_assign_Name (QaT I hN hi hx r (fun s' I'=>⟨_,H,I',h⟩) hf)
noncomputable def gNil:TGs:=fun vs σ H Q=>vs=[]∧Q σ H
noncomputable def Qk7 (t:TG) (u:TGs):TGs:=fun vs σ H Q=>∃ v r,vs=v::r∧t v σ H fun σ' H'=>u r σ' H' Q
theorem Qim:PGs X [] gNil:=by
 intro pins s σ H vs us Q I r h
 obtain⟨e,h⟩:=h
 subst e
 cases r
 exact assignInOrder_nil ⟨σ,H,I,h⟩
theorem Qg1 {e:Expr} {es:List Expr} {t:TG} {u:TGs} (h1:PG X e t) (h2:PGs X es u)
  (hs:(assignEach (e::es) X.env).map (·.2)=assign e X.env::(assignEach es X.env).map (·.2):=by rfl):PGs X (e::es) (Qk7 t u):=by
 intro pins s σ H vs us Q I r h
 obtain⟨v,vr,e1,h⟩:=h
 subst e1
 cases r with
 | cons r rr =>
  rw [hs]
  refine assignInOrder_cons (thn (h1 pins s σ H _ _ _ I r h) fun _ s1 ⟨σ1,H1,I1,q1⟩=>?_)
  exact h2 pins s1 σ1 H1 _ _ Q I1 rr q1
noncomputable def gTup (K:PySem.W.Frag) (n:Nat) (t:TGs):TG:=fun v σ H Q=>∃ a xs,v=.ref a∧SqT K H a xs∧xs.length=n∧t xs σ H Q
theorem QjD {es:List Expr} {k:Nat} {t:TGs} {n:Nat} (hc:X.calm=true) (h:PGs X es t)
  (hn:(assignEach es X.env).length=n:=by rfl) (hst:(assignEach es X.env).findIdx? (·.1)=none:=by rfl):PG X (.Tuple es k pos) (gTup X.K n t):=by
 intro pins s σ H v u Q I r hw
 obtain⟨a,xs,e1,hq,hl,hw⟩:=hw
 subst e1
 cases r
 obtain⟨its,rv,ht,hz⟩:=I.tuple hq
 refine assign_Tuple_tuple (I.ok.hd hc) ht (by simp [hn,← hl,rv.length]) hst fun h' hx=>?_
 have I1:Inv X pins σ H { s with heap:=h' }:=I.kept (t':=s.toks) fun b o e=>hx b o (Nat.ne_of_lt (Heap.lt_size e)) e
 exact h pins _ σ H xs _ Q I1 (by simpa using rv) hw
noncomputable def gSub (to ti:TE) (t:TSet):TG:=fun v σ H Q=>to σ H fun o H1=>ti σ H1 fun i H2=>t o i v H2 fun H3=>Q σ H3
theorem QjE {o i:Expr} {to ti:TE} {t:TSet} (ho:PE X o to) (hi:PE X i ti) (hs:PSet X t)
  (ha:∀ v,assign (.Subscript o i pos) X.env v=(do
   let ov ← holding [v] (eval o X.env)
   let iv ← holding [v,ov] (eval i X.env)
   standAt pos
   holding [v,ov,iv] (setItem ov iv v)
   release [v,ov,iv] []):=by intro _; rfl):PG X (.Subscript o i pos) (gSub to ti t):=by
 intro pins s σ H v u Q I r h
 rw [ha]
 refine wpAny_bind (wpAny_holding (thn (ho pins s σ H _ I h) fun ov s1 ⟨x,H1,I1,r1,q1⟩=>?_))
 refine wpAny_bind (wpAny_holding (thn (hi pins s1 σ H1 _ I1 q1) fun iv s2 ⟨y,H2,I2,r2,q2⟩=>?_))
 refine wpAny_bind (wpAny_standAt (wpAny_bind (wpAny_holding (thn (hs pins s2 σ H2 x y v ov iv u _ I2 r1 r2 r q2) fun _ s3 ⟨H3,I3,q3⟩=>?_))))
 exact wpAny_release ⟨σ,H3,I3,q3⟩
noncomputable def tAsg (te:TE) (g:TG):TS:=fun D σ H=>te σ H fun x H1=>g x σ H1 D.nx
theorem QhL {tg e:Expr} {te:TE} {g:TG} (he:PE X e te) (hg:PG X tg g) (hs:swapsWithSole [tg] e pos.line X.env=pure false:=by rfl) (hw:swappedStores [tg] e X.env=pure none:=by rfl)
  (h1:(assignEach [tg] X.env).map (·.2)=[assign tg X.env]:=by rfl):PS X (.Assign [tg] e pos) (tAsg te g):=by
 intro pins s σ H D I h
 refine wpAny_Assign_stores (thn (he pins s σ H _ I h) fun v s1 ⟨x,H1,I1,r1,q1⟩=>?_) hs hw
 rw [h1]
 exact thn (hg pins s1 σ H1 x v _ I1 r1 q1) fun _ s2 q=>q
theorem QjF {i:Nat} {x:Str} {e:Expr} {te:TE} {pos':Pos} (hN:X.N.Nodup) (hi:X.N[i]?=some x) (hx:Loc X.env.scope x) (he:PE X e te) (hs:swapsWith e (some (.Name x pos')) pos.line X.env=pure false:=by rfl) (hf:X.fn x=true∨X.env.scope.names.lookup x=some .local:=by first | exact .inl rfl | exact .inr rfl | assumption) :
  PS X (.Assign [.Name x pos'] e pos) (tAsg te (QjC i)):=by
 intro pins s σ H D I h
 refine wpAny_Assign_Name (thn (he pins s σ H _ I h) fun v s1 ⟨y,H1,I1,r1,q1⟩=>?_) hs
 exact QaT I1 hN hi hx r1 (fun s2 I2=>⟨_,H1,I2,q1⟩) hf
noncomputable def tPar (i j:Nat) (ta:TA):TS:=fun D σ H=>ta σ H fun vs H1=>∃ v w,vs=[v,w]∧D.nx ((σ.set i (some v)).set j (some w)) H1
theorem QjG {i j:Nat} {x y:Str} {a b:Expr} {ta:TA} {px py pt:Pos} {kt k2 pt2} (hc:X.calm=true) (hN:X.N.Nodup) (hi:X.N[i]?=some x) (hj:X.N[j]?=some y) (hij:i≠j)
  (hx:X.env.scope.names.lookup x=some .local) (hy:X.env.scope.names.lookup y=some .local) (ha:PA X [a,b] ta)
  (hw:swappedStores [.Tuple [.Name x px,.Name y py] kt pt] (.Tuple [a,b] k2 pt2) X.env=pure (some [x,y]))
  (hs:swapsWithSole [.Tuple [.Name x px,.Name y py] kt pt] (.Tuple [a,b] k2 pt2) pos.line X.env=pure false:=by rfl) :
  PS X (.Assign [.Tuple [.Name x px,.Name y py] kt pt] (.Tuple [a,b] k2 pt2) pos) (tPar i j ta):=by
 intro pins s σ H D I h
 rw [exec_Assign_arm]
 refine wpAny_bind (wpAny_standAt ?_)
 rw [hs]
 refine wpAny_bind (wpAny_pure ?_)
 rw [if_neg (by decide)]
 refine wpAny_bind (Tuple_ (thn (ha _ pins s σ H _ I h) fun us s1 ⟨vs,H1,I1,r1,q1⟩=>?_))
 obtain⟨v,w,e1,q1⟩:=q1
 subst e1
 obtain⟨u1,u2,rfl,rv,rw'⟩:∃ u1 u2,us=[u1,u2]∧RelV v u1∧RelV w u2:=by
  cases r1 with
  | cons p q =>
   cases q with
   | cons p' q' =>
    cases q'
    exact⟨_,_,rfl,p,p'⟩
 refine wpAny_newObj_type ?_ (by show 2≤sizeLine; decide)
 have I2:Inv X pins σ H1 { s1 with heap:=s1.heap.push { cls:=.type "tuple",data:=.seq [u1,u2].toArray } }:=I1.kept (t':=s1.toks) fun b o e=>Heap.get?_push_of_some _ e
 rw [hw]
 refine wpAny_bind (wpAny_pure ?_)
 show wpAny (model X.prog X.w) X.A (do rule "assign.swapped-stores"; let items ← unpackItems (.ref s1.heap.objs.size) 2 none; assignInOrder [fun v=>bindName X.env y v,fun v=>bindName X.env x v] items.reverse; pure Flow.next) _ _ _
 refine wpAny_bind (wpAny_rule (wpAny_bind (unpackItems_tuple (items:=#[u1,u2]) (I.ok.hd hc) (IsTup.new s1.heap _) fun h' hx'=>?_)))
 have I3:=I2.kept (h':=h') (t':=s1.toks) fun b o e=>hx' b o (Nat.ne_of_lt (Heap.lt_size e)) e
 show wpAny _ _ (assignInOrder [fun v=>bindName X.env y v,fun v=>bindName X.env x v] [u2,u1] >>= fun _=>pure Flow.next) _ _ _
 refine wpAny_bind (assignInOrder_cons (wpAny_bindName (QaT I3 hN hj (.inl hy) rw' (fun s2 I4=>?_) (.inr hy))))
 refine assignInOrder_cons (wpAny_bindName (QaT I4 hN hi (.inl hx) rv (fun s3 I5=>assignInOrder_nil (wpAny_pure ?_)) (.inr hx)))
 rw [List.set_comm _ _ (Ne.symm hij)] at I5
 exact⟨_,H1,I5,q1⟩
end
section
variable {X:Cx} {pos:Pos}
noncomputable def QjH (c:TT) (tb:TS):TS:=fun D σ H=>∃ W:Nat->St->Hp->Prop,(∃ m,W m σ H)∧∀ m σ H,W m σ H ->
 c σ H fun b H1=>if b=true then ∃ N:St->Hp->Prop,(∀ σ' H',N σ' H'->∃ m',m'<m∧W m' σ' H')∧tb { D with nx:=N,ct:=N,bk:=D.nx } σ H1 else D.nx σ H1
theorem Qg2 {c:Expr} {body:List Stmt} {tc:TT} {tb:TS} (hp:PassesOwn (model X.prog X.w) X.A X.env X.xe) (hc:PT X c tc) (hb:PSs X body tb):PS X (.While c body [] pos) (QjH tc tb):=by
 intro pins s σ H D I h
 obtain⟨W,⟨m0,w0⟩,turn⟩:=h
 refine wpAny_While (codeAny_whileLoop (fun n s'=>∃ σ' H',Inv X pins σ' H' s'∧W n σ' H') ?_ m0 ⟨σ,H,I,w0⟩)
 rintro n s1 ⟨σ1,H1,I1,w1⟩
 refine wpAny_passesOwn hp (thn (hc pins s1 σ1 H1 _ I1 (turn n σ1 H1 w1)) fun b s2 ⟨H2,I2,q2⟩=>?_)
 cases b with
 | true =>
  obtain⟨N,hN,q2⟩:=q2
  rw [if_pos rfl]
  refine wpAny_passesOwn hp (thn (hb pins s2 σ1 H2 _ I2 q2) fun f s3 q3=>?_)
  cases f with
  | next =>
   obtain⟨σ3,H3,I3,n3⟩:=q3
   obtain⟨m',hm,w3⟩:=hN σ3 H3 n3
   exact⟨m',hm,σ3,H3,I3,w3⟩
  | cont =>
   obtain⟨σ3,H3,I3,n3⟩:=q3
   obtain⟨m',hm,w3⟩:=hN σ3 H3 n3
   exact⟨m',hm,σ3,H3,I3,w3⟩
  | brk=>exact q3
  | ret v=>exact q3
 | false =>
  rw [if_neg Bool.false_ne_true]
  exact wpAny_execs_nil ⟨σ1,H2,I2,q2⟩
end
structure It where
 go:Nat->Hp->Prop
 yld:Nat->Hp->V->Hp->Prop
 stop:Nat->Hp->Prop
noncomputable def FpOk (X:Cx) (pins:List (Addr×Obj)) (H:Hp) (b:Addr):Prop :=
 H b=none∧b≠X.env.locals∧b∉X.fs∧(b∈X.ex∨X.s₀.heap.objs.size≤b)∧(∀ x c,X.env.cells.lookup x=some c->c≠b)∧∀ p∈X.pn++pins,p.1≠b
theorem Inv.fpOk {X:Cx} {pins:List (Addr×Obj)} {σ:St} {H H':Hp} {s:Shared} {b:Addr} (I:Inv X pins σ H s) (hb:s.heap.objs.size≤b) (hn:H' b=none):FpOk X pins H' b:=by
 refine⟨hn,Nat.ne_of_gt (Nat.lt_of_lt_of_le I.lt hb),I.nofs hb,.inr (Nat.le_trans I.sz hb),fun x c e z=>?_,fun p hp z=>?_⟩
 ·obtain⟨v,q⟩:=I.cell x c e
  exact absurd (Nat.lt_of_lt_of_le q.lt (by rw [z]; exact hb)) (Nat.lt_irrefl _)
 ·exact absurd (Nat.lt_of_lt_of_le (Heap.lt_size (I.pin p hp).1) (by rw [z]; exact hb)) (Nat.lt_irrefl _)
structure Turn (P:Program) (w:World) (K:PySem.W.Frag) (tg:Expr) (J:It) (fp:List Addr) (it:Addr) (tn:Nat->Heap->Prop):Prop where
 mem:it∈fp
 obj:∀ i h,tn i h->∀ b∈fp,∃ o,h.get? b=some o∧∀ v,o.data≠.cell v
 keep:∀ i h h',tn i h->(∀ b∈fp,∀ o,h.get? b=some o->h'.get? b=some o)->tn i h'
 item:∀(X:Cx),X.prog=P->X.w=w->X.K=K->X.calm=true->∀(i:Nat) (pins:List (Addr×Obj)) (s:Shared) (σ:St) (H:Hp) (E:Value->Shared->Prop),Inv X pins σ H s->(∀ b∈fp,FpOk X pins H b)->tn i s.heap->J.go i H ->
  wpAny (model P w) X.A (pyNext (.ref it)) (fun r s1=>∃ u,r=some u ∧
   wpAny (model P w) X.A (letOwnedTupleGo tg (.ref it) u) (fun _ s2=>∃ x H',Inv X pins σ H' s2∧RelV x u∧J.yld i H x H'∧tn (i+1) s2.heap∧∀ b∈fp,H' b=none) E s1) E s
 done:∀(X:Cx),X.prog=P->X.w=w->X.K=K->X.calm=true->∀(i:Nat) (pins:List (Addr×Obj)) (s:Shared) (σ:St) (H:Hp) (E:Value->Shared->Prop),Inv X pins σ H s->(∀ b∈fp,FpOk X pins H b)->tn i s.heap->J.stop i H ->
  wpAny (model P w) X.A (pyNext (.ref it)) (fun r s1=>r=none∧Inv X pins σ H s1) E s
 self:∀(A:Around) (i:Nat) (s:Shared) (Q:Value->Shared->Prop) (E:Value->Shared->Prop),tn i s.heap->Q (.ref it) s->wpAny (model P w) A (pyIter (.ref it)) Q E s
noncomputable abbrev TI:=St->Hp->(It->Hp->Prop)->Prop
noncomputable def PIE (X:Cx) (pins:List (Addr×Obj)) (σ:St) (tg:Expr) (R:It->Hp->Prop) (itv:Value) (s2:Shared):Prop :=
 ∃(it:Addr) (fp:List Addr) (tn:Nat->Heap->Prop) (J:It) (H':Hp),itv=.ref it∧Inv X pins σ H' s2∧Turn X.prog X.w X.K tg J fp it tn∧tn 0 s2.heap∧(∀ b∈fp,FpOk X pins H' b)∧R J H'
noncomputable def PI (X:Cx) (tg iter:Expr) (wi:TI):Prop :=
 ∀(pins:List (Addr×Obj)) (s:Shared) (σ:St) (H:Hp) (R:It->Hp->Prop),Inv X pins σ H s->wi σ H R ->
  wpAny (model X.prog X.w) X.A (eval iter X.env) (fun v s1=>wpAny (model X.prog X.w) X.A (pyIter v) (PIE X pins σ tg R) X.xe s1) X.xe s
theorem Qin {M:Model} {A:Around} {E:Value->Shared->Prop} {s:Shared} {tg:Expr} {it:Addr} {u:Value} {o:Obj} {n:String} {vs:Array Value} {Q:Unit->Shared->Prop} (ho:s.heap.get? it=some o) (hc:o.cls=.type n) (hd:o.data=.fields vs)
    (hn:["enumerate", "zip", "dict_itemiterator", "dict_reverseitemiterator", "odict_iterator", "itertools.zip_longest", "itertools.pairwise"].contains n=false) (hQ:Q () s):wpAny M A (letOwnedTupleGo tg (.ref it) u) Q E s:=by
  unfold letOwnedTupleGo
  cases tg <;> first
    | exact wpAny_pure hQ
    | (cases u <;> first
        | exact wpAny_pure hQ
        | (refine wpAny_bind (wpAny_load ho ?_)
           rw [hc,hd]
           show wpAny M A (if (["enumerate", "zip", "dict_itemiterator", "dict_reverseitemiterator", "odict_iterator", "itertools.zip_longest", "itertools.pairwise"].contains n && vs[0]? == some (rawInt _))=true then _ else _) Q E s
           rw [if_neg (by intro h; rw [hn,Bool.false_and] at h; cases h)]
           exact wpAny_pure hQ))
noncomputable def Itl (K:PySem.W.Frag) (a:Addr):It :=
 ⟨fun i H=>∃ xs x,SqL K H a xs∧xs[i]?=some x,fun i H x H'=>H'=H∧∀ xs,SqL K H a xs->xs[i]?=some x,fun i H=>∃ xs,SqL K H a xs∧xs.length≤i⟩
noncomputable def Itt (K:PySem.W.Frag) (a:Addr):It :=
 ⟨fun i H=>∃ xs x,SqT K H a xs∧xs[i]?=some x,fun i H x H'=>H'=H∧∀ xs,SqT K H a xs->xs[i]?=some x,fun i H=>∃ xs,SqT K H a xs∧xs.length≤i⟩
noncomputable def Itr (lo:Int) (n:Nat):It:=⟨fun i _=>i<n,fun i H x H'=>H'=H∧x=.int (lo+i),fun i _=>n≤i⟩
theorem Qfn {P:Program} {w:World} {K:PySem.W.Frag} {tg:Expr} (a it:Addr):Turn P w K tg (Itl K a) [it] it (fun i h=>h.IsListIter it a i) where
 mem:=by simp
 obj:=fun i h st b hb=>by
  have e:b=it:=by simpa using hb
  subst e
  obtain⟨o,e,c,d⟩:=st
  exact⟨o,e,fun v z=>by rw [d] at z; cases z⟩
 keep:=fun i h h' st k=>st.at fun o e=>k it (by simp) o e
 item:=by
  intro X hP hw hK hc i pins s σ H E I hf st hg
  subst hP hw hK
  obtain⟨xs,x,hq,hx⟩:=hg
  obtain⟨its,rv,p,hz⟩:=I.list hq
  obtain⟨u,hu,ru⟩:=rv.get hx
  obtain⟨f0,f1,f2,f3,f4,f5⟩:=hf it (by simp)
  refine wpAny_pyNext_list_item st p.isList (x:=u) (by simpa using hu) fun h' st' sb=>?_
  have I1:Inv X pins σ H { s with heap:=h' }:=I.turned (t':=s.toks) (fun b o hb e=>(sb.2 b hb).trans e) f0 f1 f3 f4 f5
  obtain⟨o,e,c,d⟩:=id st'
  exact⟨u,rfl,Qin (s:={ s with heap:=h' }) e c d (by decide) ⟨x,H,I1,ru,⟨rfl,fun ys hy=>by rw [I.list_inj hy hq]; exact hx⟩,st',fun b hb=>(hf b hb).1⟩⟩
 done:=by
  intro X hP hw hK hc i pins s σ H E I hf st hg
  subst hP hw hK
  obtain⟨xs,hq,hx⟩:=hg
  obtain⟨its,rv,p,hz⟩:=I.list hq
  obtain⟨f0,f1,f2,f3,f4,f5⟩:=hf it (by simp)
  have hl:=rv.length
  exact wpAny_pyNext_list_end (I.ok.hd hc) st p.isList (by simp; omega) fun h' eb=>⟨rfl,I.turned (t':=s.toks) (fun b o hb e=>eb b o hb e) f0 f1 f3 f4 f5⟩
 self:=fun _ _ _ _ _ st h=>wpAny_pyIter_listiter st h
theorem QeF {P:Program} {w:World} {K:PySem.W.Frag} {tg:Expr} (a it:Addr):Turn P w K tg (Itt K a) [it] it (fun i h=>h.IsTupleIter it a i) where
 mem:=by simp
 obj:=fun i h st b hb=>by
  have e:b=it:=by simpa using hb
  subst e
  obtain⟨o,e,c,d⟩:=st
  exact⟨o,e,fun v z=>by rw [d] at z; cases z⟩
 keep:=fun i h h' st k=>st.at fun o e=>k it (by simp) o e
 item:=by
  intro X hP hw hK hc i pins s σ H E I hf st hg
  subst hP hw hK
  obtain⟨xs,x,hq,hx⟩:=hg
  obtain⟨its,rv,p,hz⟩:=I.tuple hq
  obtain⟨u,hu,ru⟩:=rv.get hx
  obtain⟨f0,f1,f2,f3,f4,f5⟩:=hf it (by simp)
  refine wpAny_pyNext_tuple_item st (show s.heap.IsTuple a its.toArray from p) (x:=u) (by simpa using hu) fun h' st' sb=>?_
  have I1:Inv X pins σ H { s with heap:=h' }:=I.turned (t':=s.toks) (fun b o hb e=>(sb.2 b hb).trans e) f0 f1 f3 f4 f5
  obtain⟨o,e,c,d⟩:=id st'
  exact⟨u,rfl,Qin (s:={ s with heap:=h' }) e c d (by decide) ⟨x,H,I1,ru,⟨rfl,fun ys hy=>by rw [I.tuple_inj hy hq]; exact hx⟩,st',fun b hb=>(hf b hb).1⟩⟩
 done:=by
  intro X hP hw hK hc i pins s σ H E I hf st hg
  subst hP hw hK
  obtain⟨xs,hq,hx⟩:=hg
  obtain⟨its,rv,p,hz⟩:=I.tuple hq
  obtain⟨f0,f1,f2,f3,f4,f5⟩:=hf it (by simp)
  have hl:=rv.length
  exact wpAny_pyNext_tuple_end (I.ok.hd hc) st (show s.heap.IsTuple a its.toArray from p) (by simp; omega) fun h' eb=>⟨rfl,I.turned (t':=s.toks) (fun b o hb e=>eb b o hb e) f0 f1 f3 f4 f5⟩
 self:=fun _ _ _ _ _ st h=>wpAny_pyIter_tupleiter st h
theorem QeG {P:Program} {w:World} {K:PySem.W.Frag} {tg:Expr} (it:Addr) (lo:Int) (n:Nat):Turn P w K tg (Itr lo n) [it] it (fun i h=>IsRangeIter h it (lo+(i:Nat)*1) ((n:Int) - (i:Nat)) 1) where
 mem:=by simp
 obj:=fun i h st b hb=>by
  have e:b=it:=by simpa using hb
  subst e
  exact⟨_,st,fun v z=>by
   have z':Data.fields _=Data.cell v:=z
   cases z'⟩
 keep:=fun i h h' st k=>k it (by simp) _ st
 item:=by
  intro X hP hw hK hc i pins s σ H E I hf st hg
  subst hP hw hK
  obtain⟨f0,f1,f2,f3,f4,f5⟩:=hf it (by simp)
  have W:=Walks.range (prog:=X.prog) (w:=X.w) (I.ok.hd hc) it lo 1 n
  refine W.item i s _ _ hg st fun v h' tk hv st' kk=>?_
  obtain⟨t,rfl⟩:=hv
  have I1:Inv X pins σ H { s with heap:=h',toks:=tk }:=I.turned (fun b o hb e=>kk b o (by simpa using hb) e) f0 f1 f3 f4 f5
  refine⟨_,rfl,Qin (s:={ s with heap:=h',toks:=tk }) (n:="range_iterator") st' rfl rfl (by decide) ⟨.int (lo+i),H,I1,⟨t,?_⟩,⟨rfl,rfl⟩,st',fun b hb=>(hf b hb).1⟩⟩
  rw [Int.mul_one]
 done:=by
  intro X hP hw hK hc i pins s σ H E I hf st hg
  subst hP hw hK
  obtain⟨f0,f1,f2,f3,f4,f5⟩:=hf it (by simp)
  exact wpAny_pyNext_range_end (I.ok.hd hc) st (by have:n≤i:=hg; omega) fun h' eb=>⟨rfl,I.turned (t':=s.toks) (fun b o hb e=>eb b o hb e) f0 f1 f3 f4 f5⟩
 self:=fun _ _ _ _ _ st h=>wpAny_pyIter_rangeiter st h
end L2
namespace L2
open PySem PySem.Spec PyProof.Rows
section
variable {X:Cx} {tg:Expr}
theorem Qg3 {pins:List (Addr×Obj)} {σ:St} {H:Hp} {s:Shared} {R:It->Hp->Prop} {E:Value->Shared->Prop} {lo hi:Int} {t u v:Tok} {tk:Nat} (I:Inv X pins σ H s) (h1:-(2 ^ 62)≤lo) (h2:lo<2 ^ 62) (h3:-(2 ^ 62)≤hi) (h4:hi<2 ^ 62)
  (q:R (Itr lo (hi - lo).toNat) H):wpAny (model X.prog X.w) X.A (pyIter (.ref s.heap.objs.size)) (PIE X pins σ tg R) E { s with heap:=s.heap.push { cls:=.type "range",data:=.fields #[.int lo t,.int hi u,.int 1 v] },toks:=tk }:=by
 refine wpAny_pyIter_range (IsRange.new ..) (small_one h1 h2 h3 h4) ?_
 have I1:Inv X pins σ H { s with heap:=s.heap.push { cls:=.type "range",data:=.fields #[.int lo t,.int hi u,.int 1 v] },toks:=tk }:=I.kept fun b o e=>Heap.get?_push_of_some _ e
 refine⟨(s.heap.push { cls:=.type "range",data:=.fields #[.int lo t,.int hi u,.int 1 v] }).objs.size,[(s.heap.push { cls:=.type "range",data:=.fields #[.int lo t,.int hi u,.int 1 v] }).objs.size],_,_,H,rfl,
  I1.kept (t':=tk) fun b o e=>Heap.get?_push_of_some _ e,QeG _ lo (hi - lo).toNat,?_,fun b hb=>?_,q⟩
 ·have e1:lo+((0:Nat):Int)*1=lo:=by simp
  have e2:(((hi - lo).toNat:Nat):Int) - ((0:Nat):Int)=Builtin.Range.rangeSize lo hi 1:=by rw [rangeSize_one]; split <;> omega
  show IsRangeIter _ _ (lo+((0:Nat):Int)*1) ((((hi - lo).toNat:Nat):Int) - ((0:Nat):Int)) 1
  rw [e1,e2]
  exact Heap.get?_push_size _ rfl
 ·have e:b=(s.heap.push { cls:=.type "range",data:=.fields #[.int lo t,.int hi u,.int 1 v] }).objs.size:=by simpa using hb
  subst e
  exact I1.fpOk (Nat.le_refl _) (I1.hok.fresh (Nat.le_refl _))
noncomputable def Qk8 (ta:TA):TI:=fun σ H R=>ta σ H fun vs H1=>∃ j:Int,vs=[.int j] ∧ -(2 ^ 62)≤j∧j<2 ^ 62∧R (Itr 0 j.toNat) H1
theorem Qfo {a:Expr} {ta:TA} {p pos:Pos} (hg:Gl X "range") (hm:X.mg "range" = none) (ha:PA X [a] ta) (hs:starEach [a] X.env=[(false,eval a X.env)]:=by rfl):PI X tg (.Call (.Name "range" p) [a] [] pos) (Qk8 ta):=by
 intro pins s σ H R I h
 refine Call_ (Qa6 I hg hm boot_range (PyProof.Rows.callWith_type1 (thn (ha pos pins s σ H _ I h) fun us s1 ⟨vs,H1,I1,r1,q1⟩=>?_) hs rfl))
 obtain⟨j,e,q1,q2,q⟩:=q1
 subst e
 cases r1 with
 | cons r rr =>
  cases rr
  obtain⟨t,rfl⟩:=r
  exact call_range_1 (Qg3 I1 (by omega) (by omega) q1 q2 (by simpa using q))
noncomputable def tFor (wi:TI) (g:TG) (tb:TS):TS:=fun D σ H=>wi σ H fun J H1=>∃ W:Nat->Nat->St->Hp->Prop,(∃ m,W 0 m σ H1)∧∀ i m σ H,W i m σ H ->
 (J.stop i H∧D.nx σ H)∨(J.go i H∧∃ N:St->Hp->Prop,(∀ σ' H',N σ' H'->∃ m',m'<m∧W (i+1) m' σ' H')∧∀ x H',J.yld i H x H'->g x σ H' fun σ2 H2=>tb { D with nx:=N,ct:=N,bk:=D.nx } σ2 H2)
noncomputable def QcK (fp:List Addr) (h:Heap):List (Addr×Obj):=fp.filterMap fun b=>(h.get? b).map fun o=>(b,o)
theorem Jt {fp:List Addr} {h:Heap} {b:Addr} {o:Obj} (hb:b∈fp) (e:h.get? b=some o):(b,o)∈QcK fp h:=List.mem_filterMap.mpr ⟨b,hb,by rw [e]; rfl⟩
theorem Qfp {fp:List Addr} {h:Heap} {p:Addr×Obj} (hp:p∈QcK fp h):p.1∈fp∧h.get? p.1=some p.2:=by
 obtain⟨b,hb,e⟩:=List.mem_filterMap.mp hp
 cases q:h.get? b with
 | none=>rw [q] at e; cases e
 | some o =>
  rw [q] at e
  have e':(b,o)=p:=Option.some.inj e
  subst e'
  exact⟨hb,q⟩
theorem Inv.pinned {pins:List (Addr×Obj)} {σ:St} {H:Hp} {s:Shared} {fp:List Addr} (I:Inv X pins σ H s) (hf:∀ b∈fp,FpOk X pins H b) (ho:∀ b∈fp,∃ o,s.heap.get? b=some o∧∀ v,o.data≠.cell v):Inv X (pins++QcK fp s.heap) σ H s :=
 I.pins_of fun p hp=>(List.mem_append.mp hp).elim (fun z=>I.pin p (List.mem_append_right _ z)) fun z=>by
  obtain⟨hb,e⟩:=Qfp z
  obtain⟨f0,f1,f2,_⟩:=hf p.1 hb
  obtain⟨o,e',d⟩:=ho p.1 hb
  rw [e] at e'; cases e'
  exact⟨e,f0,f1,f2,d⟩
theorem Inv.unpinned {pins pl:List (Addr×Obj)} {σ:St} {H:Hp} {s:Shared} (I:Inv X (pins++pl) σ H s):Inv X pins σ H s:=I.pins_of fun p hp=>I.pin p (List.mem_append_right _ (List.mem_append_left _ hp))
theorem QjI {iter:Expr} {body:List Stmt} {wi:TI} {g:TG} {tb:TS} {pos:Pos} (hp:PassesOwn (model X.prog X.w) X.A X.env X.xe) (hc:X.calm=true) (hi:PI X tg iter wi) (hg:PG X tg g) (hb:PSs X body tb)
  (hs:∀ x,foldedSetIterable iter X.env x=pure x:=by intro _; rfl):PS X (.For tg iter body [] pos) (tFor wi g tb):=by
 intro pins s σ H D I h
 refine wpAny_For (thn (hi pins s σ H _ I h) fun v s1 h1=>thn h1 fun itv s2 h2=>?_) hs
 obtain⟨it,fp,tn,J,H2,e,I2,T,st2,f2,W,⟨m0,w0⟩,turn⟩:=h2
 subst e
 -- what stays true of the iterator's objects through the loop
 have stat:∀ {H':Hp},(∀ b∈fp,H' b=none)->∀ b∈fp,FpOk X pins H' b:=fun hn b hb=>⟨hn b hb,(f2 b hb).2⟩
 refine codeAny_forLoop_any (fun n s'=>∃ i σ' H',Inv X pins σ' H' s'∧tn i s'.heap∧(∀ b∈fp,H' b=none)∧W i n σ' H') ?_ m0 ⟨0,σ,H2,I2,st2,fun b hb=>(f2 b hb).1,w0⟩
 rintro n s3 ⟨i,σ3,H3,I3,st3,fr3,w3⟩
 rcases turn i n σ3 H3 w3 with⟨stop,qn⟩ | ⟨go,N,hN,step⟩
 ·refine wpAny_passesOwn hp (thn (T.done X rfl rfl rfl hc i pins s3 σ3 H3 X.xe I3 (stat fr3) st3 stop) fun r s4 ⟨hr,I4⟩=>?_)
  subst hr
  exact wpAny_execs_nil ⟨σ3,H3,I4,qn⟩
 ·refine wpAny_passesOwn hp (thn (T.item X rfl rfl rfl hc i pins s3 σ3 H3 X.xe I3 (stat fr3) st3 go) fun r s4 ⟨u,hr,h4⟩=>?_)
  subst hr
  refine wpAny_passesOwn hp (thn h4 fun _ s5 ⟨x,H5,I5,r5,y5,st5,fr5⟩=>?_)
  have I5':=I5.pinned (stat fr5) (T.obj _ _ st5)
  refine wpAny_passesOwn hp (thn (hg _ s5 σ3 H5 x u _ I5' r5 (step x H5 y5)) fun _ s6 ⟨σ6,H6,I6,q6⟩=>?_)
  refine wpAny_passesOwn hp (thn (hb _ s6 σ6 H6 _ I6 q6) fun f s7 q7=>?_)
  have again:∀ {σ7:St} {H7:Hp},Inv X (pins++QcK fp s5.heap) σ7 H7 s7->N σ7 H7->∃ m,m<n∧∃ i σ' H',Inv X pins σ' H' s7∧tn i s7.heap∧(∀ b∈fp,H' b=none)∧W i m σ' H':=fun {σ7 H7} I7 n7=>by
   obtain⟨m',hm,w7⟩:=hN σ7 H7 n7
   refine⟨m',hm,i+1,σ7,H7,I7.unpinned,T.keep _ _ _ st5 fun b hb o e=>(I7.pin (b,o) (List.mem_append_right _ (List.mem_append_right _ (Jt hb e)))).1,fun b hb=>?_,w7⟩
   obtain⟨o,e,d⟩:=T.obj _ _ st5 b hb
   exact(I7.pin (b,o) (List.mem_append_right _ (List.mem_append_right _ (Jt hb e)))).2.1
  cases f with
  | next=>obtain⟨σ7,H7,I7,n7⟩:=q7; exact again I7 n7
  | cont=>obtain⟨σ7,H7,I7,n7⟩:=q7; exact again I7 n7
  | brk=>obtain⟨σ7,H7,I7,q7⟩:=q7; exact⟨σ7,H7,I7.unpinned,q7⟩
  | ret v=>obtain⟨x7,σ7,H7,I7,r7,q7⟩:=q7; exact⟨x7,σ7,H7,I7.unpinned,r7,q7⟩
end
end L2
namespace L2
open PySem PySem.Spec PyProof.Rows
noncomputable abbrev R2:=V->V->Hp->VK->Prop
noncomputable def OpR (X:Cx) (f:Value->Value->Sem Value) (r:R2):Prop :=
 ∀(pins:List (Addr×Obj)) (s:Shared) (σ:St) (H:Hp) (x y:V) (v u:Value) (Q:VK),Inv X pins σ H s->RelV x v->RelV y u->r x y H Q ->
  wpAny (model X.prog X.w) X.A (f v u) (EP X pins σ Q) X.xe s
noncomputable def UnR (X:Cx) (f:Value->Sem Value) (r:V->Hp->VK->Prop):Prop :=
 ∀(pins:List (Addr×Obj)) (s:Shared) (σ:St) (H:Hp) (x:V) (v:Value) (Q:VK),Inv X pins σ H s->RelV x v->r x H Q ->
  wpAny (model X.prog X.w) X.A (f v) (EP X pins σ Q) X.xe s
noncomputable def CallR (X:Cx) (f:Value) (r:List V->Hp->VK->Prop):Prop :=
 ∀(pins:List (Addr×Obj)) (s:Shared) (σ:St) (H:Hp) (xs:List V) (us:List Value) (Q:VK),Inv X pins σ H s->Vals xs us->r xs H Q ->
  wpAny (model X.prog X.w) X.A (call f us) (EP X pins σ Q) X.xe s
noncomputable def tOp (r:R2) (ta tb:TE):TE:=fun σ H Q=>ta σ H fun x H1=>tb σ H1 fun y H2=>r x y H2 Q
noncomputable def tUn (r:V->Hp->VK->Prop) (ta:TE):TE:=fun σ H Q=>ta σ H fun x H1=>r x H1 Q
noncomputable def rI (C:Int->Int->Prop) (g:Int->Int->V):R2:=fun x y H Q=>∃ i j,x=.int i∧y=.int j∧C i j∧Q (g i j) H
noncomputable def rI0 (g:Int->Int->V):R2:=fun x y H Q=>∃ i j,x=.int i∧y=.int j∧Q (g i j) H
noncomputable def rU (g:Int->V):V->Hp->VK->Prop:=fun x H Q=>∃ i,x=.int i∧Q (g i) H
section
variable {X:Cx} {a b c:Expr} {ta tb tc:TE} {pos:Pos}
theorem binT (ha:PE X a ta) (hb:PE X b tb) {pins:List (Addr×Obj)} {s:Shared} {σ:St} {H:Hp} {R:V->V->Hp->Prop} (I:Inv X pins σ H s)
  (h:ta σ H fun x H1=>tb σ H1 fun y H2=>R x y H2) {Q:Value->Shared->Prop} {f:Value->Value->Sem Value}
  (hf:∀ v u s2 x y H2,Inv X pins σ H2 s2->RelV x v->RelV y u->R x y H2->wpAny (model X.prog X.w) X.A (f v u) Q X.xe s2) :
  wpAny (model X.prog X.w) X.A (eval a X.env) (fun v s₁=>wpAny (model X.prog X.w) X.A (eval b X.env) (fun u s₂=>wpAny (model X.prog X.w) X.A (f v u) Q X.xe s₂) X.xe s₁) X.xe s:=by
 refine thn (ha pins s σ H _ I h) fun v s1 ⟨x,H1,I1,r1,q1⟩=>?_
 refine thn (hb pins s1 σ H1 _ I1 q1) fun u s2 ⟨y,H2,I2,r2,q2⟩=>?_
 exact hf v u s2 x y H2 I2 r1 r2 q2
theorem Qk9 {op:Operator} {r:R2} (ho:OpR X (binaryOp op) r) (ha:PE X a ta) (hb:PE X b tb):PE X (.BinOp a op b pos) (tOp r ta tb):=by
 intro pins s σ H Q I h
 exact wpAny_BinOp (binT ha hb I h fun v u s2 x y H2 I2 rx ry q=>ho pins s2 σ H2 x y v u Q I2 rx ry q)
theorem Qla {op:UnaryOp} {r:V->Hp->VK->Prop} (ho:UnR X (unaryOp op) r) (ha:PE X a ta):PE X (.UnaryOp op a pos) (tUn r ta):=by
 intro pins s σ H Q I h
 exact UnaryOp_ (thn (ha pins s σ H _ I h) fun v s1 ⟨x,H1,I1,r1,q1⟩=>ho pins s1 σ H1 x v Q I1 r1 q1)
theorem opI {f:Value->Value->Sem Value} {C:Int->Int->Prop} {g:Int->Int->Int}
  (rule:∀(i j:Int) (t u:Tok) (s:Shared) (Q:Value->Shared->Prop) (E:Value->Shared->Prop),C i j->Q (.int (g i j) s.toks) { s with toks:=s.toks+1 }->wpAny (model X.prog X.w) X.A (f (.int i t) (.int j u)) Q E s) :
  OpR X f (rI C fun i j=>.int (g i j)):=by
 intro pins s σ H x y v u Q I rx ry h
 obtain⟨i,j,rfl,rfl,hc,q⟩:=h
 obtain⟨t,rfl⟩:=rx
 obtain⟨t',rfl⟩:=ry
 exact rule i j t t' s _ _ hc ⟨.int (g i j),H,I.tok _,⟨_,rfl⟩,q⟩
theorem opI0 {f:Value->Value->Sem Value} {g:Int->Int->Int}
  (rule:∀(i j:Int) (t u:Tok) (s:Shared) (Q:Value->Shared->Prop) (E:Value->Shared->Prop),Q (.int (g i j) s.toks) { s with toks:=s.toks+1 }->wpAny (model X.prog X.w) X.A (f (.int i t) (.int j u)) Q E s) :
  OpR X f (rI0 fun i j=>.int (g i j)):=by
 intro pins s σ H x y v u Q I rx ry h
 obtain⟨i,j,rfl,rfl,q⟩:=h
 obtain⟨t,rfl⟩:=rx
 obtain⟨t',rfl⟩:=ry
 exact rule i j t t' s _ _ ⟨.int (g i j),H,I.tok _,⟨_,rfl⟩,q⟩
theorem opB0 {f:Value->Value->Sem Value} {g:Int->Int->Bool}
  (rule:∀(i j:Int) (t u:Tok) (s:Shared) (Q:Value->Shared->Prop) (E:Value->Shared->Prop),Q (.bool (g i j)) s->wpAny (model X.prog X.w) X.A (f (.int i t) (.int j u)) Q E s) :
  OpR X f (rI0 fun i j=>.bl (g i j)):=by
 intro pins s σ H x y v u Q I rx ry h
 obtain⟨i,j,rfl,rfl,q⟩:=h
 obtain⟨t,rfl⟩:=rx
 obtain⟨t',rfl⟩:=ry
 exact rule i j t t' s _ _ ⟨.bl (g i j),H,I,rfl,q⟩
noncomputable def CDiv (i j:Int):Prop:=0<j∧j<1073741824
noncomputable def CPow (i j:Int):Prop:=0≤j∧j≤1000000∧i.natAbs<2 ^ 64
noncomputable def CMul (i j:Int):Prop:=(-(2 ^ 64)<i∧i<2 ^ 64)∨(-(2 ^ 64)<j∧j<2 ^ 64)
theorem CMul.ok {i j:Int} (h:CMul i j):IntMulOk i j:=by
 rcases h with⟨h1,h2⟩ | ⟨h1,h2⟩
 ·exact .of_left (intBits_le_64 h1 h2)
 ·exact .of_right (intBits_le_64 h1 h2)
theorem op_add:OpR X (binaryOp .Add) (rI0 fun i j=>.int (i+j)):=opI0 fun _ _ _ _ _ _ _ q=>add_int q
theorem QjJ:OpR X (binaryOp .Sub) (rI0 fun i j=>.int (i - j)):=opI0 fun _ _ _ _ _ _ _ q=>sub_int q
theorem op_mul:OpR X (binaryOp .Mult) (rI CMul fun i j=>.int (i*j)):=opI fun _ _ _ _ _ _ _ hc q=>mul_int q hc.ok
theorem Qio:OpR X (binaryOp .FloorDiv) (rI CDiv fun i j=>.int (i / j)):=opI fun i j _ _ _ _ _ hc q=>by
 have h1:(0:Int)<j:=hc.1
 have h2:j<1073741824:=hc.2
 exact floordiv_int (by omega) (by rw [Int.fdiv_eq_ediv_of_nonneg i (by omega)]; exact q) (.inl (PyProof.noPylong_small (by omega)))
theorem QjK:OpR X (binaryOp .Mod) (rI (fun _ j=>0<j) fun i j=>.int (i % j)):=opI fun i j _ _ _ _ _ hc q=>by
 have h1:(0:Int)<j:=hc
 exact mod_int' (by omega) (by rw [Int.fmod_eq_emod_of_nonneg i (by omega)]; exact q)
theorem QjL:OpR X (binaryOp .Pow) (rI CPow fun i j=>.int (i ^ j.toNat)):=opI fun _ _ _ _ _ _ _ hc q=>pow_int_small hc.1 hc.2.1 hc.2.2 q
theorem unI {f:Value->Sem Value} {g:Int->Int}
  (rule:∀(i:Int) (t:Tok) (s:Shared) (Q:Value->Shared->Prop) (E:Value->Shared->Prop),Q (.int (g i) s.toks) { s with toks:=s.toks+1 }->wpAny (model X.prog X.w) X.A (f (.int i t)) Q E s) :
  UnR X f (rU fun i=>.int (g i)):=by
 intro pins s σ H x v Q I rx h
 obtain⟨i,rfl,q⟩:=h
 obtain⟨t,rfl⟩:=rx
 exact rule i t s _ _ ⟨.int (g i),H,I.tok _,⟨_,rfl⟩,q⟩
theorem QjM:UnR X (unaryOp .USub) (rU fun i=>.int (-i)):=unI fun _ _ _ _ _ q=>neg_int q
end
noncomputable def scal:V->V->Bool
 | .non,.non=>true | .non,.int _=>true | .int _,.non=>true | .non,.bl _=>true | .bl _,.non=>true | .non,.str _=>true | .str _,.non=>true
 | .int _,.int _=>true | .bl _,.bl _=>true | .str _,.str _=>true | .byt _,.byt _=>true
 | .int _,.str _=>true | .str _,.int _=>true | .bl _,.str _=>true | .str _,.bl _=>true
 | _,_=>false
noncomputable def rEq:R2:=fun x y H Q=>scal x y=true∧Q (.bl (decide (x=y))) H
noncomputable def rNe:R2:=fun x y H Q=>scal x y=true∧Q (.bl (!decide (x=y))) H
theorem Qcc {i j:Int}:decide (V.int i=V.int j)=(i == j):=by
 rw [Bool.eq_iff_iff]
 simp
theorem QdW {i j:Bool}:decide (V.bl i=V.bl j)=(i == j):=by
 rw [Bool.eq_iff_iff]
 simp
theorem Qdl {i j:Str}:decide (V.str i=V.str j)=(i == j):=by
 rw [Bool.eq_iff_iff]
 simp
theorem Qfq {i j:Array UInt8}:decide (V.byt i=V.byt j)=(i.toList == j.toList):=by
 rw [Bool.eq_iff_iff]
 cases i
 cases j
 simp
section
variable {X:Cx} {a b c:Expr} {ta tb tc:TE} {pos:Pos}
theorem QI {pins:List (Addr×Obj)} {σ:St} {H:Hp} {s:Shared} {Q:VK} {k k':Bool} (I:Inv X pins σ H s) (q:Q (.bl k) H) (e:k=k'):EP X pins σ Q (.bool k') s:=by
 subst e
 exact⟨.bl k,H,I,rfl,q⟩
theorem op_eq:OpR X (compareOp .Eq) rEq:=by
 intro pins s σ H x y v u Q I rx ry h
 obtain⟨hs,q⟩:=h
 cases x with
 | non =>
  cases rx
  cases y with
  | non=>cases ry; exact PySem.EqNone.eq_none_none (QI I q (by simp))
  | bl j=>cases ry; exact PySem.EqNone.eq_none_bool (QI I q (by simp))
  | int j=>obtain⟨t',rfl⟩:=ry; exact PySem.EqNone.eq_none_int (QI I q (by simp))
  | str j=>obtain⟨t',rfl⟩:=ry; exact PySem.EqNone.eq_none_str (QI I q (by simp))
  | _=>exact absurd (show false=true from hs) Bool.false_ne_true
 | bl i =>
  cases rx
  cases y with
  | non=>cases ry; exact PySem.EqNone.eq_bool_none (QI I q (by simp))
  | bl j=>cases ry; exact eq_bool (QI I q QdW)
  | str j=>obtain⟨t',rfl⟩:=ry; exact PySem.EqMixed.eq_bool_str (QI I q (by simp))
  | _=>exact absurd (show false=true from hs) Bool.false_ne_true
 | int i =>
  obtain⟨t,rfl⟩:=rx
  cases y with
  | non=>cases ry; exact PySem.EqNone.eq_int_none (QI I q (by simp))
  | int j=>obtain⟨t',rfl⟩:=ry; exact eq_int (QI I q Qcc)
  | str j=>obtain⟨t',rfl⟩:=ry; exact PySem.EqMixed.eq_int_str (QI I q (by simp))
  | _=>exact absurd (show false=true from hs) Bool.false_ne_true
 | str i =>
  obtain⟨t,rfl⟩:=rx
  cases y with
  | non=>cases ry; exact PySem.EqNone.eq_str_none (QI I q (by simp))
  | bl j=>cases ry; exact PySem.EqMixed.eq_str_bool (QI I q (by simp))
  | int j=>obtain⟨t',rfl⟩:=ry; exact PySem.EqMixed.eq_str_int (QI I q (by simp))
  | str j=>obtain⟨t',rfl⟩:=ry; exact eq_str (QI I q Qdl)
  | _=>exact absurd (show false=true from hs) Bool.false_ne_true
 | byt i =>
  obtain⟨t,rfl⟩:=rx
  cases y with
  | byt j=>obtain⟨t',rfl⟩:=ry; exact PySem.W.eq_bytes (QI I q Qfq)
  | _=>exact absurd (show false=true from hs) Bool.false_ne_true
 | _=>cases y <;> exact absurd (show false=true from hs) Bool.false_ne_true
theorem op_ne:OpR X (compareOp .NotEq) rNe:=by
 intro pins s σ H x y v u Q I rx ry h
 obtain⟨hs,q⟩:=h
 cases x with
 | non =>
  cases rx
  cases y with
  | non=>cases ry; exact PySem.EqNone.ne_none_none (QI I q (by simp))
  | bl j=>cases ry; exact PySem.EqNone.ne_none_bool (QI I q (by simp))
  | int j=>obtain⟨t',rfl⟩:=ry; exact PySem.EqNone.ne_none_int (QI I q (by simp))
  | str j=>obtain⟨t',rfl⟩:=ry; exact PySem.EqNone.ne_none_str (QI I q (by simp))
  | _=>exact absurd (show false=true from hs) Bool.false_ne_true
 | bl i =>
  cases rx
  cases y with
  | non=>cases ry; exact PySem.EqNone.ne_bool_none (QI I q (by simp))
  | bl j=>cases ry; exact ne_bool (QI I q (congrArg not QdW))
  | str j=>obtain⟨t',rfl⟩:=ry; exact PySem.EqMixed.ne_bool_str (QI I q (by simp))
  | _=>exact absurd (show false=true from hs) Bool.false_ne_true
 | int i =>
  obtain⟨t,rfl⟩:=rx
  cases y with
  | non=>cases ry; exact PySem.EqNone.ne_int_none (QI I q (by simp))
  | int j=>obtain⟨t',rfl⟩:=ry; exact ne_int (QI I q (congrArg not Qcc))
  | str j=>obtain⟨t',rfl⟩:=ry; exact PySem.EqMixed.ne_int_str (QI I q (by simp))
  | _=>exact absurd (show false=true from hs) Bool.false_ne_true
 | str i =>
  obtain⟨t,rfl⟩:=rx
  cases y with
  | non=>cases ry; exact PySem.EqNone.ne_str_none (QI I q (by simp))
  | bl j=>cases ry; exact PySem.EqMixed.ne_str_bool (QI I q (by simp))
  | int j=>obtain⟨t',rfl⟩:=ry; exact PySem.EqMixed.ne_str_int (QI I q (by simp))
  | str j=>obtain⟨t',rfl⟩:=ry; exact ne_str (QI I q (congrArg not Qdl))
  | _=>exact absurd (show false=true from hs) Bool.false_ne_true
 | byt i =>
  obtain⟨t,rfl⟩:=rx
  cases y with
  | byt j=>obtain⟨t',rfl⟩:=ry; exact PySem.W.ne_bytes (QI I q (congrArg not Qfq))
  | _=>exact absurd (show false=true from hs) Bool.false_ne_true
 | _=>cases y <;> exact absurd (show false=true from hs) Bool.false_ne_true
theorem QjN:OpR X (compareOp .Lt) (rI0 fun i j=>.bl (decide (i<j))):=opB0 fun _ _ _ _ _ _ _ q=>lt_int q
theorem Qlb:OpR X (compareOp .LtE) (rI0 fun i j=>.bl (decide (i≤j))):=opB0 fun _ _ _ _ _ _ _ q=>le_int q
theorem QjO:OpR X (compareOp .Gt) (rI0 fun i j=>.bl (decide (j<i))):=opB0 fun _ _ _ _ _ _ _ q=>gt_int q
theorem QjP:OpR X (compareOp .GtE) (rI0 fun i j=>.bl (decide (j≤i))):=opB0 fun _ _ _ _ _ _ _ q=>ge_int q
theorem QhM:OpR X (compareOp .Is) (fun x y H Q=>y=.non∧Q (.bl (decide (x=.non))) H):=by
 intro pins s σ H x y v u Q I rx ry h
 obtain⟨rfl,q⟩:=h
 cases ry
 refine is_none_gen (QI I q ?_)
 cases x <;> first
  | (cases rx; rfl)
  | (obtain⟨t,rfl⟩:=rx; rfl)
theorem Qip:OpR X (compareOp .IsNot) (fun x y H Q=>y=.non∧Q (.bl (!decide (x=.non))) H):=by
 intro pins s σ H x y v u Q I rx ry h
 obtain⟨rfl,q⟩:=h
 cases ry
 refine isnot_none_gen (QI I q ?_)
 cases x <;> first
  | (cases rx; rfl)
  | (obtain⟨t,rfl⟩:=rx; rfl)
theorem OpR.or {f:Value->Value->Sem Value} {r r':R2} (h:OpR X f r) (h':OpR X f r'):OpR X f (fun x y H Q=>r x y H Q∨r' x y H Q):=by
 intro pins s σ H x y v u Q I rx ry q
 rcases q with q | q
 ·exact h pins s σ H x y v u Q I rx ry q
 ·exact h' pins s σ H x y v u Q I rx ry q
theorem Jd (b:Expr) {op:CmpOp} (h:op≠.In:=by decide) (h2:op≠.NotIn:=by decide):behindInMarks op b=false:=by
 have e1:(op == CmpOp.In)=false:=by cases op <;> first | rfl | exact absurd rfl h
 have e2:(op == CmpOp.NotIn)=false:=by cases op <;> first | rfl | exact absurd rfl h2
 cases b <;> simp [behindInMarks,e1,e2]
theorem Qiq {op:CmpOp} {r:R2} (ho:OpR X (compareOp op) r) (ha:PE X a ta) (hb:PE X b tb) (hm:behindInMarks op b=false):PE X (.Compare a [op] [b] pos) (tOp r ta tb):=by
 intro pins s σ H Q I h
 exact wpAny_Compare1 (binT ha hb I h fun v u s2 x y H2 I2 rx ry q=>ho pins s2 σ H2 x y v u Q I2 rx ry q) hm
noncomputable def Qlc (t:TE):TT:=fun σ H Q=>t σ H fun x H'=>∃ k,x=.bl k∧Q k H'
theorem Qir {op:CmpOp} {r:R2} (ho:OpR X (compareOp op) r) (ha:PE X a ta) (hb:PE X b tb) (hm:behindInMarks op b=false):PT X (.Compare a [op] [b] pos) (Qlc (tOp r ta tb)):=by
 intro pins s σ H Q I h
 refine wpAny_isTrue_Compare1 (thn (ha pins s σ H _ I h) fun v s1 ⟨x,H1,I1,r1,q1⟩=>thn (hb pins s1 σ H1 _ I1 q1) fun u s2 ⟨y,H2,I2,r2,q2⟩ =>
  thn (ho pins s2 σ H2 x y v u _ I2 r1 r2 q2) fun c s3 ⟨z,H3,I3,r3,k,e,q3⟩=>?_) hm
 subst e
 cases r3
 exact wpAny_truthy_bool ⟨H3,I3,q3⟩
noncomputable def QhN (r r':R2) (ta tb tc:TE):TE:=fun σ H Q=>ta σ H fun x H1=>tb σ H1 fun y H2=>r x y H2 fun z H3=>∃ k,z=.bl k ∧
 (if k=true then tc σ H3 fun w' H4=>r' y w' H4 Q else Q (.bl false) H3)
theorem Qg4 {op op':CmpOp} {r r':R2} (ho:OpR X (compareOp op) r) (ho':OpR X (compareOp op') r') (ha:PE X a ta) (hb:PE X b tb) (hc:PE X c tc)
  (hm:lastMarks [op,op'] [b,c]=false:=by with_unfolding_all rfl):PE X (.Compare a [op,op'] [b,c] pos) (QhN r r' ta tb tc):=by
 intro pins s σ H Q I h
 refine Compare_chain (thn (ha pins s σ H _ I h) fun v s1 ⟨x,H1,I1,r1,q1⟩=>chain_link (thn (hb pins s1 σ H1 _ I1 q1) fun u s2 ⟨y,H2,I2,r2,q2⟩ =>
  thn (ho pins s2 σ H2 x y v u _ I2 r1 r2 q2) fun d s3 ⟨z,H3,I3,r3,k,e,q3⟩=>?_)) hm
 subst e
 cases r3
 refine wpAny_truthy_bool ?_
 cases k with
 | false=>exact ite_ff ⟨.bl false,H3,I3,rfl,q3⟩
 | true=>exact ite_tt (chain_last (thn (hc pins s3 σ H3 _ I3 q3) fun w' s4 ⟨z',H4,I4,r4,q4⟩=>ho' pins s4 σ H4 y z' u w' Q I4 r2 r4 q4))
theorem QcL:(sizeLine:Nat)<2 ^ 63:=by rw [sizeLine_eq]; decide
theorem Qfr {x:V} {us:List Value} (r:Vals [x] us):∃ u,us=[u]∧RelV x u:=by
 cases r with
 | cons r1 r2=>cases r2; exact⟨_,rfl,r1⟩
theorem Qld {x y:V} {us:List Value} (r:Vals [x,y] us):∃ u w',us=[u,w']∧RelV x u∧RelV y w':=by
 cases r with
 | cons r1 r2 =>
  cases r2 with
  | cons r3 r4=>cases r4; exact⟨_,_,rfl,r1,r3⟩
theorem Qfs (hc:X.calm=true):CallR X (.builtin "min") (fun xs H Q=>∃ i j,xs=[.int i,.int j]∧Q (.int (if j<i then j else i)) H):=by
 intro pins s σ H xs us Q I r h
 obtain⟨i,j,rfl,q⟩:=h
 obtain⟨u,w',rfl,⟨t,rfl⟩,⟨t',rfl⟩⟩:=Qld r
 refine min_two_ints (I.ok.hd hc) fun h' tk k=>⟨_,H,I.kept k,?_,q⟩
 by_cases hj:j<i
 ·rw [if_pos hj,if_pos hj]; exact⟨_,rfl⟩
 ·rw [if_neg hj,if_neg hj]; exact⟨_,rfl⟩
theorem Qft:CallR X (.type "int") (fun xs H Q=>(∃ i,xs=[.int i]∧Q (.int i) H)∨∃ k,xs=[.bl k]∧Q (.int (if k then 1 else 0)) H):=by
 intro pins s σ H xs us Q I r h
 rcases h with⟨i,rfl,q⟩ | ⟨k,rfl,q⟩
 ·obtain⟨u,rfl,t,rfl⟩:=Qfr r
  exact call_int_int ⟨.int i,H,I,⟨_,rfl⟩,q⟩
 ·obtain⟨u,rfl,r1⟩:=Qfr r
  cases r1
  exact call_int_bool ⟨.int (if k then 1 else 0),H,I.tok _,⟨_,rfl⟩,q⟩
end
end L2
namespace L2
open PySem PySem.Spec PyProof.Rows
structure ObjM (h:Heap) (x dx C:Addr) (mA:Str->Option Value):Prop where
 obj:h.get? x=some (PySem.W.instObj C dx)
 ns:h.Ns1 dx mA
 ne:dx≠x
theorem Qfu {h:Heap} {dx:Addr} {mA:Str->Option Value} (n:h.Ns1 dx mA):∃ od,h.get? dx=some od∧∀ name,PySem.W.lookIn name od=some (mA name):=by
 obtain⟨o,es,ep,ho,hd,hk,_,hm⟩:=n
 refine⟨o,ho,fun name=>?_⟩
 have e:=hm name
 unfold nsFind findBy at e
 rw [← Array.find?_toList] at e
 unfold PySem.W.lookIn
 rw [hd]
 dsimp only
 split
 ·rename_i y q
  rw [q] at e
  exact congrArg some e
 ·rename_i q
  rw [q] at e
  have a:es.toList.any (·.refKey)=false:=by
   rw [List.any_eq_false]
   intro y hy
   obtain⟨z,t,hkey⟩:=hk y (Array.mem_toList_iff.mp hy)
   simp [DictEntry.refKey,hkey]
  have a':¬ es.toList.any (·.refKey)=true:=by rw [a]; exact Bool.false_ne_true
  rw [if_neg a']
  exact congrArg some e
theorem ObjM.look {h:Heap} {x dx C:Addr} {mA:Str->Option Value} (I:ObjM h x dx C mA):∃ od,PySem.W.InstAt h x (PySem.W.instObj C dx) C (some od)∧∀ name,PySem.W.lookIn name od=some (mA name) :=
 let ⟨od,ho,hl⟩:=Qfu I.ns
 ⟨od,⟨I.obj,rfl,rfl,ho⟩,hl⟩
section
variable {prog:Program} {w:World} {A:Around} {E:Value->Shared->Prop} {s:Shared} {K:PySem.W.Frag} {x dx C f:Addr} {mA:Str->Option Value} {name:Str} {v:Value}
theorem Qis {expr:Bool} {Q:Value->Shared->Prop} (X:K.In s.heap) (I:ObjM s.heap x dx C mA) (hg:PySem.W.plainGet K C name=true) (hh:PySem.W.hasDictIn K C=true)
  (ha:PySem.W.findIn K (.ref C) name=some none) (hv:mA name=some v) (hv':PySem.W.handedIn v=true) (h:Q v { s with toks:=s.toks+1 }) :
  wpAny (model prog w) A (getAttr (.ref x) name expr) Q E s:=by
 obtain⟨od,J,hl⟩:=I.look
 exact PySem.W.get_value X J (PySem.W.plainGet_of hg).1 (PySem.W.findObj_own hh ha rfl (by rw [hl,hv])) hv' h
theorem Qg5 {pl:Sem Bool} {Q:Value×List Value->Shared->Prop} (X:K.In s.heap) (I:ObjM s.heap x dx C mA) (hg:PySem.W.plainGet K C name=true)
  (hf:PySem.W.findIn K (.ref C) name=some (some (.ref f))) (ht:PySem.W.isFn K (.ref f)=true) (hv:mA name=none) (h:Q (.ref f,[.ref x]) s) :
  wpAny (model prog w) A (getMethod (.ref x) name pl) Q E s:=by
 obtain⟨od,J,hl⟩:=I.look
 exact PySem.W.method_fn X J (PySem.W.plainGet_of hg).1 (PySem.W.plainGet_of hg).2 hf (beq_iff_eq.mp ht) (by show(PySem.W.lookIn name od).map (·.isSome)=some false; rw [hl,hv]; rfl) h
theorem Qit {ns:List Str} {Q:Unit->Shared->Prop} (X:K.In s.heap) (I:ObjM s.heap x dx C mA)
  (hs:PySem.W.findIn K (.ref C) "__setattr__" = some (some (.builtin "object.__setattr__"))) (hp:PySem.W.plainOver K C=true) (ht:PySem.W.takerIn K C name=some none) (hh:PySem.W.hasDictIn K C=true)
  (hw:PySem.Within mA ns) (hsz:ns.length≤sizeLine)
  (h:∀ h',ObjM h' x dx C (fun y=>if y=name then some v else mA y)->Heap.SameBut dx s.heap h'->Q () { s with heap:=h',toks:=s.toks+2 }) :
  wpAny (model prog w) A (setAttr (.ref x) name v) Q E s:=by
 obtain⟨od,J,hl⟩:=I.look
 refine PySem.W.set_plain X J hs (PySem.W.osa_open (s:={ s with toks:=s.toks+1 }) (r:=none) X J hp ht fun b=>?_)
 obtain⟨cd,hc,hd'⟩:=PySem.W.any_some hh
 have hx:s.heap.get? x=some ⟨.ref C,some dx,.plain,#[]⟩:=I.obj
 refine wpAny_bind (wpAny_pure (wpAny_bind (wpAny_bind (wpAny_loadPart hx (wpAny_bind (PySem.W.Looks.here (s:={ s with toks:=s.toks+1 }) (PySem.W.looks_clsIn X hc) ?_))))))
 rw [hd']
 refine wpAny_pure (a:=some dx) (wpAny_bind (wpAny_pure (wpAny_bind ?_)))
 refine wpAny_nsSet1 (s:={ s with toks:=s.toks+1 }) I.ns fun h' hn2 hs2=>?_
 obtain⟨oD,esD,epD,hoD,hdD,hcD⟩:=hn2.count (PySem.Within.cons name v hw)
 refine wpAny_bind (wpAny_lookBehind hoD (by rw [hdD]; exact pastItsLine_dict (Nat.le_trans hcD (by rw [List.length_cons]; omega))) ?_)
 exact wpAny_pure (h _ ⟨(hs2.2 _ (Ne.symm I.ne)).trans I.obj,hn2,I.ne⟩ hs2)
theorem Qg6 {R:Result->Shared->Prop} {vs:List Value} {kw:List (Str×Value)} (X:K.In s.heap) (hm:PySem.W.makesIn K C=true)
  (hi:PySem.W.findIn K (.ref C) "__init__" = some (some (.ref f))) (hf:PySem.W.typeIn K (.ref f)=some (.type "function"))
  (h:codeAny (model prog w) (A.under (.builtin "type.__call__" ⟨.ref C::vs,kw⟩)) (.call (.ref f) ⟨.ref (s.heap.objs.size+1)::vs,kw⟩) (PySem.W.InitBack (s.heap.objs.size+1) R)
   { s with heap:=(s.heap.push PySem.W.emptyDict).push (PySem.W.instObj C s.heap.objs.size) }) :
  codeAny (model prog w) A (.call (.ref C) ⟨vs,kw⟩) R s:=by
 obtain⟨hh,g,d,t,os⟩:=s
 exact PySem.W.make_core (PySem.W.makes_of X hm) (PySem.W.looks_findIn X hi) (fun self=>PySem.W.bind_fn X self hf) (.inl rfl) h
end
noncomputable def putF (f:Str) (v:V):List (Str×V)->List (Str×V)
 | []=>[(f,v)]
 | (g,x)::r=>if g=f then (g,v)::r else (g,x)::putF f v r
theorem Qa7 (f g:Str) (v:V):∀ fs:List (Str×V),(putF f v fs).lookup g=if g=f then some v else fs.lookup g
 | []=>by
  show List.lookup g [(f,v)]=_
  by_cases h:g=f
  ·have hb:(g == f)=true:=beq_iff_eq.mpr h
   simp only [List.lookup,hb,if_pos h]
  ·have hb:(g == f)=false:=beq_eq_false_iff_ne.mpr h
   simp only [List.lookup,hb,if_neg h]
 | (k,x)::r=>by
  have ih:=Qa7 f g v r
  rw [show putF f v ((k,x)::r)=(if k=f then (k,v)::r else (k,x)::putF f v r) from rfl]
  by_cases hk:k=f
  ·rw [if_pos hk]
   by_cases h:g=k
   ·have hb:(g == k)=true:=beq_iff_eq.mpr h
    simp only [List.lookup,hb,if_pos (h.trans hk)]
   ·have hb:(g == k)=false:=beq_eq_false_iff_ne.mpr h
    simp only [List.lookup,hb,if_neg (fun e:g=f=>h (e.trans hk.symm))]
  ·rw [if_neg hk]
   by_cases h:g=k
   ·have hb:(g == k)=true:=beq_iff_eq.mpr h
    simp only [List.lookup,hb,if_neg (fun e:g=f=>hk (h.symm.trans e))]
   ·have hb:(g == k)=false:=beq_eq_false_iff_ne.mpr h
    simp only [List.lookup,hb]
    exact ih
theorem Qa8 (f:Str) (v:V):∀ fs:List (Str×V),f∈(putF f v fs).map (·.1)∧∀ g,g∈fs.map (·.1)->g∈(putF f v fs).map (·.1)
 | []=>⟨by simp [putF],fun g h=>by simp at h⟩
 | (k,x)::r=>by
  obtain⟨i1,i2⟩:=Qa8 f v r
  rw [show putF f v ((k,x)::r)=(if k=f then (k,v)::r else (k,x)::putF f v r) from rfl]
  by_cases hk:k=f
  ·rw [if_pos hk]
   subst hk
   exact⟨by simp,fun g h=>by simpa using h⟩
  ·rw [if_neg hk]
   refine⟨?_,fun g h=>?_⟩
   ·rw [List.map_cons]
    exact List.mem_cons_of_mem _ i1
   ·rw [List.map_cons] at h ⊢
    rcases List.mem_cons.mp h with e | e
    ·exact List.mem_cons.mpr (.inl e)
    ·exact List.mem_cons_of_mem _ (i2 g e)
theorem Qa9 (f:Str) (v:V):∀ fs:List (Str×V),(putF f v fs).length≤fs.length+1
 | []=>by simp [putF]
 | (k,x)::r=>by
  have ih:=Qa9 f v r
  rw [show putF f v ((k,x)::r)=(if k=f then (k,v)::r else (k,x)::putF f v r) from rfl]
  by_cases hk:k=f
  ·rw [if_pos hk,List.length_cons,List.length_cons]; omega
  ·rw [if_neg hk,List.length_cons,List.length_cons]; omega
theorem RelO.some_of {v:V} {o:Option Value} (r:RelO (some v) o):∃ u,o=some u∧RelV v u:=by
 cases o with
 | none=>exact(show False from r).elim
 | some u=>exact⟨u,rfl,r⟩
theorem RelO.none_of {o:Option Value} (r:RelO none o):o=none:=by
 cases o with
 | none=>rfl
 | some u=>exact(show False from r).elim
theorem Qfv {v:V} {u:Value} (r:RelV v u):PySem.W.handedIn u=true:=by
 cases v with
 | non=>cases (show u=Value.none from r); rfl
 | bl b=>cases (show u=Value.bool b from r); rfl
 | int i=>obtain⟨t,e⟩:=(show ∃ t,u=Value.int i t from r); cases e; rfl
 | str x=>obtain⟨t,e⟩:=(show ∃ t,u=Value.str x t from r); cases e; rfl
 | byt b=>obtain⟨t,e⟩:=(show ∃ t,u=Value.bytes b t from r); cases e; rfl
 | flt b=>obtain⟨t,e⟩:=(show ∃ t,u=Value.float b t from r); cases e; rfl
 | ref a=>cases (show u=Value.ref a from r); rfl
 | ty n=>cases (show u=Value.type n from r); rfl
section
variable {P:Program} {w:World} {H H':Hp} {h h':Heap} {a C dx:Addr} {fs fs':List (Str×V)}
theorem Qcd (hok:HOk P w H h) (e:H a=some (.ins C dx fs)):∃ mA,ObjM h a dx C mA∧(∀ f,RelO (fs.lookup f) (mA f))∧PySem.Within mA (fs.map (·.1))∧fs.length≤1000∧H dx=some (.own a):=by
 obtain⟨d,z,ne,ob,mA,n,r,q⟩:=(show ObjOk P w H h a (.ins C dx fs) from hok a _ e)
 exact⟨mA,⟨ob,n,ne⟩,r,q,z,d⟩
end
structure Cls (K:PySem.W.Frag) (C:Addr):Prop where
 pg:PySem.W.plainGet K C Str.empty=true
 hd:PySem.W.hasDictIn K C=true
 po:PySem.W.plainOver K C=true
 sa:PySem.W.findIn K (.ref C) "__setattr__" = some (some (.builtin "object.__setattr__"))
theorem Cls.get {K:PySem.W.Frag} {C:Addr} (c:Cls K C) (f:Str):PySem.W.plainGet K C f=true:=c.pg
noncomputable def NoAttr (K:PySem.W.Frag) (C:Addr) (f:Str):Prop:=PySem.W.findIn K (.ref C) f=some none
theorem NoAttr.taker {K:PySem.W.Frag} {C:Addr} {f:Str} (n:NoAttr K C f):PySem.W.takerIn K C f=some none:=by
 unfold PySem.W.takerIn
 rw [show PySem.W.findIn K (.ref C) f=some none from n]
 rfl
structure Meth (K:PySem.W.Frag) (C:Addr) (m:Str) (f:Addr):Prop where
 at_:PySem.W.findIn K (.ref C) m=some (some (.ref f))
 fn:PySem.W.isFn K (.ref f)=true
 kp:PySem.W.keepIn K (.ref f)=true
section
variable {X:Cx} {pins:List (Addr×Obj)} {σ:St} {H:Hp} {s:Shared} {a C dx:Addr} {fs:List (Str×V)} {f:Str} {v:V} {A:Around} {E:Value->Shared->Prop}
theorem QeH {b:Bool} {Q:Value->Shared->Prop} (I:Inv X pins σ H s) (e:H a=some (.ins C dx fs)) (c:Cls X.K C) (n:NoAttr X.K C f) (l:fs.lookup f=some v)
  (h:∀ u s',Inv X pins σ H s'->RelV v u->Q u s'):wpAny (model X.prog X.w) A (getAttr (.ref a) f b) Q E s:=by
 obtain⟨mA,O,r,_,_,_⟩:=Qcd I.hok e
 obtain⟨u,hu,ru⟩:=RelO.some_of (v:=v) (o:=mA f) (by rw [← l]; exact r f)
 exact Qis I.kIn O (c.get f) c.hd n hu (Qfv ru) (h u _ (I.tok _) ru)
theorem QbZ {m:Str} {g:Addr} {pl:Sem Bool} {Q:Value×List Value->Shared->Prop} (I:Inv X pins σ H s) (e:H a=some (.ins C dx fs)) (c:Cls X.K C) (k:Meth X.K C m g) (l:fs.lookup m=none)
  (h:Q (.ref g,[.ref a]) s):wpAny (model X.prog X.w) A (getMethod (.ref a) m pl) Q E s:=by
 obtain⟨mA,O,r,_,_,_⟩:=Qcd I.hok e
 have hn:mA m=none:=RelO.none_of (by rw [← l]; exact r m)
 exact Qg5 I.kIn O (c.get m) k.at_ k.fn hn h
theorem QeI {y:V} {u:Value} {Q:Unit->Shared->Prop} (I:Inv X pins σ H s) (e:H a=some (.ins C dx fs)) (c:Cls X.K C) (n:NoAttr X.K C f) (hl:fs.length<1000) (ry:RelV y u)
  (h:∀ s',Inv X pins σ (upd H a (.ins C dx (putF f y fs))) s'->Q () s'):wpAny (model X.prog X.w) A (setAttr (.ref a) f u) Q E s:=by
 obtain⟨mA,O,r,wi,_,ho⟩:=Qcd I.hok e
 have hz:(fs.map (·.1)).length≤sizeLine:=by rw [List.length_map,sizeLine_eq]; omega
 refine Qit I.kIn O c.sa c.po n.taker c.hd wi hz fun h' O' sb=>h _ ?_
 have hd:∃ o,h'.get? dx=some o:=let ⟨o,_,_,e',_⟩:=O'.ns; ⟨o,e'⟩
 refine I.write (x:=a) (e:=dx) (by rw [e]; exact True.intro) (.inr ho) (fun b q hb z=>(sb.2 b hb).trans z) hd ?_
 refine⟨by rw [Qx O.ne]; exact ho,?_,O.ne,O'.obj,_,O'.ns,fun g=>?_,fun g hg=>?_⟩
 ·have:=Qa9 f y fs; omega
 ·show RelO ((putF f y fs).lookup g) (if g=f then some u else mA g)
  rw [Qa7]
  by_cases q:g=f
  ·rw [if_pos q,if_pos q]; exact ry
  ·rw [if_neg q,if_neg q]; exact r g
 ·by_cases q:g=f
  ·rw [q]; exact(Qa8 f y fs).1
  ·refine(Qa8 f y fs).2 g (wi g fun z=>hg ?_)
   show(if g=f then some u else mA g)=none
   rw [if_neg q]; exact z
theorem Inv.made (I:Inv X pins σ H s):Inv X pins σ (upd (upd H s.heap.objs.size (.own (s.heap.objs.size+1))) (s.heap.objs.size+1) (.ins C s.heap.objs.size []))
  { s with heap:=(s.heap.push PySem.W.emptyDict).push (PySem.W.instObj C s.heap.objs.size) }:=by
 have e1:(s.heap.push PySem.W.emptyDict).get? s.heap.objs.size=some PySem.W.emptyDict:=Heap.get?_push_size s.heap rfl
 have e2:((s.heap.push PySem.W.emptyDict).push (PySem.W.instObj C s.heap.objs.size)).get? (s.heap.objs.size+1)=some (PySem.W.instObj C s.heap.objs.size):=by
  have:=Heap.get?_push_size (s.heap.push PySem.W.emptyDict) (o:=PySem.W.instObj C s.heap.objs.size) rfl
  rwa [Heap.size_push] at this
 have e3:(s.heap.push PySem.W.emptyDict).Ns s.heap.objs.size (fun _=>none):=⟨PySem.W.emptyDict,#[],_,e1,rfl,(fun e he=>absurd he (by simp)),fun _=>rfl⟩
 have I1:=I.laid (a:=s.heap.objs.size) (o:=.own (s.heap.objs.size+1)) (h':=s.heap.push PySem.W.emptyDict) (t':=s.toks) (fun b u q=>Heap.get?_push_of_some _ q) (Nat.le_refl _) ⟨_,e1⟩
 refine I1.laid (a:=s.heap.objs.size+1) (o:=.ins C s.heap.objs.size []) (t':=s.toks) (fun b u q=>Heap.get?_push_of_some _ q) (Nat.le_of_eq (Heap.size_push _ _)) ?_
 have ne:s.heap.objs.size≠s.heap.objs.size+1:=Nat.ne_of_lt (Nat.lt_succ_self _)
 refine⟨by rw [Qx ne,Qu],Nat.zero_le _,ne,e2,fun _=>none,(Heap.Ns1.of_empty e3).at fun o q=>Heap.get?_push_of_some _ q,fun _=>True.intro,fun y hy=>absurd rfl hy⟩
theorem Qiu {prog:Program} {w:World} {env:Env} {e:Expr} {f:Str} {pos:Pos} {s:Shared} {Q:Value->Shared->Prop} (hb:attributeBase e f env (eval e env)=eval e env)
  (h:wpAny (model prog w) A (eval e env) (fun o s₁=>wpAny (model prog w) A (getAttr o f true) Q E s₁) E s):wpAny (model prog w) A (eval (.Attribute e f pos) env) Q E s :=
 Attribute_any_ h (by rw [arm_eval_Attribute,hb])
end
noncomputable def tFld (K:PySem.W.Frag) (ta:TE) (f:Str):TE:=fun σ H Q=>ta σ H fun x H1=>∃ a C dx fs v,x=.ref a∧H1 a=some (.ins C dx fs)∧Cls K C∧NoAttr K C f∧fs.lookup f=some v∧Q v H1
noncomputable def sFld (K:PySem.W.Frag) (ta tv:TE) (f:Str):TS:=fun D σ H=>tv σ H fun y H1=>ta σ H1 fun x H2=>∃ a C dx fs,x=.ref a∧H2 a=some (.ins C dx fs)∧Cls K C∧NoAttr K C f∧fs.length<1000 ∧
 D.nx σ (upd H2 a (.ins C dx (putF f y fs)))
section
variable {X:Cx} {o e value:Expr} {f:Str} {pos pos' tpos:Pos} {ta tv:TE}
theorem QjQ (he:PE X e ta) (hb:attributeBase e f X.env (eval e X.env)=eval e X.env):PE X (.Attribute e f pos) (tFld X.K ta f):=by
 intro pins s σ H Q I h
 refine Qiu hb (thn (he pins s σ H _ I h) fun u s1 ⟨x,H1,I1,rx,a,C,dx,fs,v,ex,ea,c,n,l,q⟩=>?_)
 subst ex
 obtain rfl:u=Value.ref a:=rx
 exact QeH I1 ea c n l fun u' s2 I2 ru=>⟨v,H1,I2,ru,q⟩
theorem QjR (ha:PE X o ta) (hv:PE X value tv) (hs:swapsWith value (some (.Attribute o f pos')) pos.line X.env=pure false):PS X (.Assign [.Attribute o f pos'] value pos) (sFld X.K ta tv f):=by
 intro pins s σ H D I h
 refine plainObj_wpAny_Assign_Attribute (thn (hv pins s σ H _ I h) fun u s1 ⟨y,H1,I1,ry,q⟩=>thn (ha pins s1 σ H1 _ I1 q) fun ov s2 ⟨x,H2,I2,rx,a,C,dx,fs,ex,ea,c,n,l,q2⟩=>?_) hs
 subst ex
 obtain rfl:ov=Value.ref a:=rx
 exact QeI I2 ea c n l ry fun s3 I3=>⟨σ,_,I3,q2⟩
end
section
variable {X:Cx} {pins:List (Addr×Obj)} {σ:St} {H:Hp} {s:Shared} {A:Around} {E:Value->Shared->Prop} {Q:Value->Shared->Prop} {c:Value} {b:Bool}
inductive TyOf (K:PySem.W.Frag) (H:Hp):V->Value->Prop where
 | non:TyOf K H .non (.type "NoneType")
 | bl (x:Bool):TyOf K H (.bl x) (.type "bool")
 | int (i:Int):TyOf K H (.int i) (.type "int")
 | str (x:Str):TyOf K H (.str x) (.type "str")
 | flt (x:UInt64):TyOf K H (.flt x) (.type "float")
 | lst {a:Addr} {xs:List V} (e:H a=some (.lst xs)):TyOf K H (.ref a) (.type "list")
 | frz {a:Addr} {o:Obj} {xs:List V} (e:H a=some (.frz o (.lst xs))):TyOf K H (.ref a) (.type "list")
 | tup {a:Addr} {xs:List V} (e:H a=some (.tup xs)):TyOf K H (.ref a) (.type "tuple")
 | dK {a:Addr} {kvs:List (Key×V)} (e:H a=some (.dK kvs)):TyOf K H (.ref a) (.type "dict")
 | dT {a:Addr} {kvs:List (List Key×V)} (e:H a=some (.dT kvs)):TyOf K H (.ref a) (.type "dict")
 | ins {a C dx:Addr} {fs:List (Str×V)} (e:H a=some (.ins C dx fs)) (cl:Cls K C) (ha:PySem.W.findIn K (.ref C) "__class__" = some (some (.builtin "object.__class__")))
   (hn:PySem.W.specialIn K (.builtin "object.__class__") "__get__" = some (some (.builtin "getset_descriptor.__get__"))) (htk:PySem.W.takesIn K (.builtin "object.__class__")=some true)
   (hm:PySem.W.mroIn K C (.type "object")=some true):TyOf K H (.ref a) (.ref C)
theorem YI {x:V} {u t:Value} (I:Inv X pins σ H s) (rx:RelV x u) (ty:TyOf X.K H x t) (e:PySem.W.kitOne X.K t c=some b) (h:∀ tk,Q (.bool b) { s with toks:=tk }) :
  wpAny (model X.prog X.w) A (call (.builtin "isinstance") [u,c]) Q E s:=by
 cases ty with
 | non=>cases (show u=Value.none from rx); exact PySem.W.kia_one PySem.W.kitx_none I.kIn True.intro e (fun z=>nomatch z) h
 | bl y=>cases (show u=Value.bool y from rx); exact PySem.W.kia_one PySem.W.kitx_bool I.kIn True.intro e (fun z=>nomatch z) h
 | int i=>obtain⟨t,q⟩:=(show ∃ t,u=Value.int i t from rx); cases q; exact PySem.W.kia_one PySem.W.kitx_int I.kIn True.intro e (fun z=>nomatch z) h
 | str y=>obtain⟨t,q⟩:=(show ∃ t,u=Value.str y t from rx); cases q; exact PySem.W.kia_one PySem.W.kitx_str I.kIn True.intro e (fun z=>nomatch z) h
 | flt y=>obtain⟨t,q⟩:=(show ∃ t,u=Value.float y t from rx); cases q; exact PySem.W.kia_one PySem.W.kitx_float I.kIn True.intro e (fun z=>nomatch z) h
 | @lst a xs ea =>
  cases (show u=Value.ref a from rx)
  obtain⟨_,_,n,_,h1⟩:=(show ObjOk X.prog X.w H s.heap a (.lst xs) from I.hok a _ ea)
  exact PySem.W.kia_one PySem.W.kitx_list I.kIn ⟨_,h1,rfl⟩ e (fun z=>nomatch z) h
 | @frz a ob xs ea =>
  cases (show u=Value.ref a from rx)
  obtain⟨_,_,_,n,_,h1⟩:=(show ObjOk X.prog X.w H s.heap a (.frz ob (.lst xs)) from I.hok a _ ea)
  exact PySem.W.kia_one PySem.W.kitx_list I.kIn ⟨_,h1,rfl⟩ e (fun z=>nomatch z) h
 | @tup a xs ea =>
  cases (show u=Value.ref a from rx)
  obtain⟨_,_,_,p⟩:=(show ObjOk X.prog X.w H s.heap a (.tup xs) from I.hok a _ ea)
  obtain⟨o,h1,h2,_⟩:=p
  exact PySem.W.kia_one PySem.W.kitx_tuple I.kIn ⟨o,h1,h2⟩ e (fun z=>nomatch z) h
 | @dK a kvs ea =>
  cases (show u=Value.ref a from rx)
  obtain⟨_,_,vs,_,p⟩:=(show ObjOk X.prog X.w H s.heap a (.dK kvs) from I.hok a _ ea)
  obtain⟨o,es,ep,h1,h2,_⟩:=p
  exact PySem.W.kia_one PySem.W.kitx_dict I.kIn ⟨o,h1,h2.1⟩ e (fun z=>nomatch z) h
 | @dT a kvs ea =>
  cases (show u=Value.ref a from rx)
  obtain⟨_,_,xs,_,o,es,ep,h1,h2,_⟩:=(show ObjOk X.prog X.w H s.heap a (.dT kvs) from I.hok a _ ea)
  exact PySem.W.kia_one PySem.W.kitx_dict I.kIn ⟨o,h1,h2.1⟩ e (fun z=>nomatch z) h
 | @ins a C dx fs ea cl ha hn htk hm =>
  cases (show u=Value.ref a from rx)
  obtain⟨mA,O,_⟩:=Qcd I.hok ea
  obtain⟨od,J,_⟩:=O.look
  exact PySem.W.kia_one (PySem.W.kitx_own (cl.get _) cl.hd ha hn htk hm) I.kIn J e (fun z=>nomatch z) h
end
end L2
namespace L2
open PySem PySem.Spec PyProof.Rows
structure Room (k:Nat) (A:Around):Prop where
 hd:A.handled=none
 dp:A.depth+3*k+5<recursionLimit
 un:A.units+16*k+200<cLine
theorem Room.mono {j k:Nat} {A:Around} (r:Room k A) (h:j≤k):Room j A:=⟨r.hd,by have:=r.dp; omega,by have:=r.un; omega⟩
theorem Room.deeper {k:Nat} {A:Around} (r:Room (k+1) A) (env:Env):Room k (A.deeper env) :=
 ⟨r.hd,by have:=r.dp; show A.depth+1+3*k+5<_; omega,by have:=r.un; show A.units+3+16*k+200<_; omega⟩
theorem Room.in1 {k:Nat} {A:Around} (r:Room (k+1) A):Room k A.in1 :=
 ⟨r.hd,by have:=r.dp; show A.depth+3*k+5<_; omega,by have:=r.un; show A.units+1+16*k+200<_; omega⟩
theorem QeJ {A:Around} {C:Addr} {us:List Value} {kw:List (Str×Value)}:(A.under (.builtin "type.__call__" ⟨.ref C::us,kw⟩)).depth=A.depth+1:=by
 first | rfl | simp [Around.under,Code.weight,Code.isCreation,Code.isGuard,Code.isCaller,Code.frames,Code.isFrame,guardIds]
theorem QeK {A:Around} {C:Addr} {us:List Value} {kw:List (Str×Value)}:(A.under (.builtin "type.__call__" ⟨.ref C::us,kw⟩)).units=A.units+1:=by
 first | rfl | simp [Around.under,Code.cUnits,Code.frames,Code.isFrame]
theorem Room.make {k:Nat} {A:Around} (r:Room (k+1) A) (C:Addr) (us:List Value) (kw:List (Str×Value)):Room k (A.under (.builtin "type.__call__" ⟨.ref C::us,kw⟩)) :=
 ⟨r.hd,by have:=r.dp; rw [QeJ]; omega,by have:=r.un; rw [QeK]; omega⟩
theorem Room.depth {k:Nat} {A:Around} (r:Room k A):A.depth<recursionLimit:=by have:=r.dp; omega
theorem Room.units {k:Nat} {A:Around} (r:Room k A):A.units+64<cLine:=by have:=r.un; omega
noncomputable def tNil:TA:=fun _ H Q=>Q [] H
noncomputable def Qle (ta:TE) (tr:TA):TA:=fun σ H Q=>ta σ H fun x H1=>tr σ H1 fun xs H2=>Q (x::xs) H2
section
variable {X:Cx} {e:Expr} {es:List Expr} {te:TE} {t:TA} {pos:Pos}
theorem QdX:PA X [] tNil:=fun _ _ _ _ H Q I h=>Calls.spliced_nil ⟨[],H,I,.nil,h⟩
theorem JN (ha:PE X e te) (hr:PA X es t) (hs:starEach (e::es) X.env=(false,eval e X.env)::starEach es X.env:=by rfl):PA X (e::es) (Qle te t):=by
 intro pos pins s σ H Q I h
 rw [hs]
 show wpAny _ _ (spliced ((false,eval e X.env)::backTo pos (starEach es X.env))) _ _ s
 refine Calls.spliced_cons (thn (ha pins s σ H _ I h) fun u s1 ⟨x,H1,I1,r1,q1⟩=>?_)
 exact thn (hr pos pins s1 σ H1 _ I1 q1) fun us s2 ⟨xs,H2,I2,r2,q2⟩=>⟨x::xs,H2,I2,.cons r1 r2,q2⟩
noncomputable def tTup (t:TA):TE:=fun σ H Q=>t σ H fun xs H1=>xs.length≤sizeLine∧∀ p,H1 p=none->Q (.ref p) (upd H1 p (.tup xs))
noncomputable def tLst (t:TA):TE:=fun σ H Q=>t σ H fun xs H1=>xs.length≤sizeLine∧∀ p,H1 p=none->Q (.ref p) (upd H1 p (.lst xs))
theorem QhO {x1} (h:PA X es t):PE X (.Tuple es x1 pos) (tTup t):=by
 intro pins s σ H Q I hq
 refine wpAny_Tuple_spliced (thn (h pos pins s σ H _ I hq) fun us s1 ⟨xs,H1,I1,r,z,q⟩=>⟨by rw [← r.length]; exact z,?_⟩)
 have hf:H1 s1.heap.objs.size=none:=I1.hok.fresh (Nat.le_refl _)
 refine⟨.ref s1.heap.objs.size,upd H1 s1.heap.objs.size (.tup xs),I1.laid (t':=s1.toks) (fun b u e=>Heap.get?_push_of_some _ e) (Nat.le_refl _) ?_,rfl,q _ hf⟩
 exact⟨z,us,r,⟨_,Heap.get?_push_size _ rfl,rfl,_,rfl⟩⟩
theorem QjS (h:PA X es t):PE X (.List es pos) (tLst t):=by
 intro pins s σ H Q I hq
 refine wpAny_List_spliced (thn (h pos pins s σ H _ I hq) fun us s1 ⟨xs,H1,I1,r,z,q⟩=>⟨by rw [← r.length]; exact z,?_⟩)
 have hf:H1 s1.heap.objs.size=none:=I1.hok.fresh (Nat.le_refl _)
 refine⟨.ref s1.heap.objs.size,upd H1 s1.heap.objs.size (.lst xs),I1.laid (t':=s1.toks) (fun b u e=>Heap.get?_push_of_some _ e) (Nat.le_refl _) ?_,rfl,q _ hf⟩
 exact⟨z,us,0,r,Heap.get?_push_size _ rfl⟩
end
noncomputable abbrev Sp:=List V->Hp->VK->XK->Prop
noncomputable abbrev CXT:=List Env->Hp->Shared->XK->Value->Shared->Prop
structure Env0 (P:Program) (w:World) (K:PySem.W.Frag) (mg:Str->Option Value) (base:Heap) (A:Around) (outer:List Env) (s:Shared) (H:Hp):Prop where
 frames:A.frames=some outer
 mod:Mod K mg base
 bs:∀ b o,base.get? b=some o->s.heap.get? b=some o∧H b=none
 bsz:base.objs.size≤s.heap.objs.size
 funs:s.heap.FunFrames base outer
 frf:∀ b∈frs outer,H b=none
 hok:HOk P w H s.heap
 bare:AllBare s.gens
noncomputable def CE (outer:List Env) (P:Program) (w:World) (H:Hp) (s:Shared) (Q:VK) (u:Value) (s':Shared):Prop :=
 ∃ v H',s'.os=s.os∧AllBare s'.gens∧Un (frs outer) [] H H' s.heap s'.heap∧HOk P w H' s'.heap∧RelV v u∧Q v H'
noncomputable def CR (CX:CXT) (outer:List Env) (P:Program) (w:World) (H:Hp) (s:Shared) (Q:VK) (E:XK) (r:Result) (s':Shared):Prop :=
 match r with
 | .ok (.ret u)=>CE outer P w H s Q u s'
 | .ok _=>False
 | .error e=>CX outer H s E e s'
structure FnOk (P:Program) (w:World) (K:PySem.W.Frag) (mg:Str->Option Value) (base:Heap) (CX:CXT) (k:Nat) (f:Addr) (fd:FuncData) (ps:List Str) (sp:Sp):Prop where
 len:∀ vs H Q E,sp vs H Q E->vs.length=ps.length
 run:∀(A:Around) (outer:List Env) (s:Shared) (H:Hp) (args:Args) (us:List Value) (vs:List V) (Q:VK) (E:XK),Room k A->Env0 P w K mg base A outer s H->BindsTo s fd args (ps.zip us)->Vals vs us->sp vs H Q E ->
  codeAny (model P w) A (.call (.ref f) args) (CR CX outer P w H s Q E) s
theorem FnOk.mono {P:Program} {w:World} {K:PySem.W.Frag} {mg:Str->Option Value} {base:Heap} {CX:CXT} {j k:Nat} {f:Addr} {fd:FuncData} {ps:List Str} {sp:Sp} (F:FnOk P w K mg base CX j f fd ps sp) (h:j≤k) :
  FnOk P w K mg base CX k f fd ps sp:=⟨F.len,fun A outer s H args us vs Q E hr=>F.run A outer s H args us vs Q E (hr.mono h)⟩
theorem Env0.make {P:Program} {w:World} {K:PySem.W.Frag} {mg:Str->Option Value} {base:Heap} {A:Around} {outer:List Env} {s:Shared} {H:Hp} (e:Env0 P w K mg base A outer s H) (C:Addr) (us:List Value) (kw:List (Str×Value)) :
  Env0 P w K mg base (A.under (.builtin "type.__call__" ⟨.ref C::us,kw⟩)) outer s H:=⟨by first | exact e.frames | (simpa [Around.under,Code.envs,Code.isFrame,pushEnvs] using e.frames),e.mod,e.bs,e.bsz,e.funs,e.frf,e.hok,e.bare⟩
theorem Env0.in1 {P:Program} {w:World} {K:PySem.W.Frag} {mg:Str->Option Value} {base:Heap} {A:Around} {outer:List Env} {s:Shared} {H:Hp} (e:Env0 P w K mg base A outer s H) :
  Env0 P w K mg base A.in1 outer s H:=⟨e.frames,e.mod,e.bs,e.bsz,e.funs,e.frf,e.hok,e.bare⟩
section
variable {X:Cx} {pins:List (Addr×Obj)} {σ:St} {H:Hp} {s s':Shared}
theorem Inv.env0 (I:Inv X pins σ H s):Env0 X.prog X.w X.K X.mg X.base X.A X.stack s H :=
 ⟨I.ok.frames,I.ok.mod,I.bs,Nat.le_trans I.ok.bsz I.sz,I.stack,I.stkFree,I.hok,I.bare⟩
theorem Inv.after {Q:VK} {u:Value} (I:Inv X pins σ H s) (h:CE X.stack X.prog X.w H s Q u s'):EP X pins σ Q u s':=by
 obtain⟨v,H',os,bare,un,hok,r,q⟩:=h
 obtain⟨hh,g,d,t,os'⟩:=s'
 obtain rfl:os'=s.os:=os
 exact⟨v,H',I.call (h':=hh) (g':=g) (d':=d) (t':=t) (ch:=[]) un hok bare (fun b z=>absurd z (by simp)),r,q⟩
end
noncomputable def Binds (K:PySem.W.Frag) (fd:FuncData) (ps:List Str) (ds:List Value):Prop :=
 ∀(s:Shared) (us:List Value),K.In s.heap->(us++ds).length=ps.length->BindsTo s fd ⟨us,[]⟩ (ps.zip (us++ds))
theorem Binds.all {K:PySem.W.Frag} {fd:FuncData} {ps:List Str} (h:∀ us:List Value,us.length=ps.length->bindArgs fd ⟨us,[]⟩=pure (ps.zip us)):Binds K fd ps []:=fun s us _ hl=>by
 rw [List.append_nil] at hl ⊢
 exact .of_eq (h us hl)
section
variable {X:Cx} {CX:CXT} {k:Nat} {f C:Addr} {fd:FuncData} {ps:List Str} {sp:Sp} {dvs:List V} {ds:List Value} {E:XK} {x m:Str} {p pos apos:Pos} {e o:Expr} {es:List Expr} {ta:TE} {t:TA}
structure Mk (K:PySem.W.Frag) (C f:Addr):Prop where
 makes:PySem.W.makesIn K C=true
 init:PySem.W.findIn K (.ref C) "__init__" = some (some (.ref f))
 fn:PySem.W.isFn K (.ref f)=true
 kp:PySem.W.keepIn K (.ref C)=true
end
section
variable {X:Cx} {CX:CXT} {k:Nat} {f C:Addr} {fd:FuncData} {ps ks:List Str} {sp:Sp} {E:XK} {x m:Str} {p pos apos kpos:Pos} {e o:Expr} {es:List Expr} {kws:List Keyword} {te ta:TE} {t tk:TA} {nm:Option Str}
variable {g:List Value->List Value->List Value} {gV:List V->List V->List V}
end
structure FnScope (N P:List Str) (sc:Scope):Prop where
 kind:sc.kind=.function
 co:sc.isCoroutine=false
 gen:sc.isGenerator=false
 nd:N.Nodup
 pre:N.take P.length=P
 par:∀ x∈P,sc.names.lookup x=some .local∨sc.names.lookup x=some .cell
 nofree:∀ y∈sc.names,y.2≠.free
theorem QcM {kindOf:Str->Option NameKind} {x:Str}:∀ {binds:List (Str×Value)} {m:Str->Option Value},(∀ v,(x,v)∉binds)->bindL kindOf binds m x=m x
 | [],_,_=>rfl
 | (n,v)::r,m,h=>by
  unfold bindL
  rw [QcM fun w hw=>h w (List.mem_cons_of_mem _ hw)]
  split
  ·have:x≠n:=by rintro rfl; exact h v List.mem_cons_self
   simp [this]
  ·rfl
theorem QcN {kindOf:Str->Option NameKind} {x:Str}:∀ {binds:List (Str×Value)} {m:Str->Option Value},(∀ v,(x,v)∉binds)->bindC kindOf binds m x=m x
 | [],_,_=>rfl
 | (n,v)::r,m,h=>by
  unfold bindC
  rw [QcN fun w hw=>h w (List.mem_cons_of_mem _ hw)]
  split
  ·rfl
  ·have:x≠n:=by rintro rfl; exact h v List.mem_cons_self
   simp [this]
theorem QcO {kindOf:Str->Option NameKind} {x:Str} {v:Value}:∀ {P:List Str} {vs:List Value} {i:Nat} {m:Str->Option Value},P.Nodup->P[i]?=some x->vs[i]?=some v->kindOf x=some .local ->
  bindL kindOf (P.zip vs) m x=some v
 | [],_,_,_,_,h,_,_=>by simp at h
 | _::_,[],_,_,_,_,h,_=>by simp at h
 | p::P,w::vs,0,m,nd,h1,h2,hk=>by
  simp at h1 h2; subst h1; subst h2
  show bindL kindOf ((p,w)::P.zip vs) m p=_
  unfold bindL
  rw [QcM fun v hv=>(List.nodup_cons.mp nd).1 (List.of_mem_zip hv).1,if_pos hk]
  simp
 | p::P,w::vs,i+1,m,nd,h1,h2,hk=>by
  show bindL kindOf ((p,w)::P.zip vs) m x=_
  unfold bindL
  exact QcO (i:=i) (List.nodup_cons.mp nd).2 (by simpa using h1) (by simpa using h2) hk
theorem QcP {kindOf:Str->Option NameKind} {x:Str} {v:Value}:∀ {P:List Str} {vs:List Value} {i:Nat} {m:Str->Option Value},P.Nodup->P[i]?=some x->vs[i]?=some v->kindOf x≠some .local ->
  bindC kindOf (P.zip vs) m x=some v
 | [],_,_,_,_,h,_,_=>by simp at h
 | _::_,[],_,_,_,_,h,_=>by simp at h
 | p::P,w::vs,0,m,nd,h1,h2,hk=>by
  simp at h1 h2; subst h1; subst h2
  show bindC kindOf ((p,w)::P.zip vs) m p=_
  unfold bindC
  rw [QcN fun v hv=>(List.nodup_cons.mp nd).1 (List.of_mem_zip hv).1,if_neg hk]
  simp
 | p::P,w::vs,i+1,m,nd,h1,h2,hk=>by
  show bindC kindOf ((p,w)::P.zip vs) m x=_
  unfold bindC
  exact QcP (i:=i) (List.nodup_cons.mp nd).2 (by simpa using h1) (by simpa using h2) hk
noncomputable def start (N:List Str) (vs:List V):St:=vs.map some++List.replicate (N.length - vs.length) none
noncomputable def cxOf (CX:CXT) (P:Program) (w:World) (K:PySem.W.Frag) (mg:Str->Option Value) (base:Heap) (N:List Str) (qual:Str) (scope:Scope) (f:Addr) (cd:Value) (A:Around) (outer:List Env) (s:Shared) (H:Hp) (E:XK):Cx where
 prog:=P
 w:=w
 K:=K
 mg:=mg
 base:=base
 A:=A.deeper (envOfC qual scope s.heap.objs.size f cd)
 N:=N
 s₀:=s
 H₀:=H
 env:=envOfC qual scope s.heap.objs.size f cd
 outer:=outer
 stack:=envOfC qual scope s.heap.objs.size f cd::outer
 ex:=[]
 calm:=true
 fn:=fun _=>true
 pn:=[]
 xe:=fun e s'=>wpAny (model P w) (A.deeper (envOfC qual scope s.heap.objs.size f cd)) (leaving (envOfC qual scope s.heap.objs.size f cd) e) (fun _ s''=>CX outer H s E e s'') (fun e' s''=>CX outer H s E e' s'') s'
theorem QdY {sc:Scope} {n:Nat} {x:Str} (h:sc.names.lookup x=some .cell):∃ c,(cellsFrom n sc.names []).lookup x=some c:=by
 have q:=PySem.W.cellsFrom_some sc.names n [] (.inl h)
 exact Option.isSome_iff_exists.mp q
theorem Qfw {CX:CXT} {P:Program} {w:World} {K:PySem.W.Frag} {mg:Str->Option Value} {base:Heap} {N ps:List Str} {qual:Str} {scope:Scope} {f:Addr} {cd:Value} {A:Around} {outer:List Env} {s s1:Shared} {H:Hp} {E:XK} {us:List Value} {vs:List V}
  (S:FnScope N ps scope) (hd:A.handled=none) (e0:Env0 P w K mg base A outer s H) (hl:vs.length=ps.length) (r:Vals vs us)
  (x:InCallC s s.heap.objs.size (bindL (envOfC qual scope s.heap.objs.size f cd).kindOf (ps.zip us) fun _=>none) (cellsFrom (s.heap.objs.size+1) scope.names []) (bindC (envOfC qual scope s.heap.objs.size f cd).kindOf (ps.zip us) fun _=>none) s1) :
  Inv (cxOf CX P w K mg base N qual scope f cd A outer s H E) [] (start N vs) H s1:=by
 have hpl:ps.length≤N.length:=by have:=congrArg List.length S.pre; rw [List.length_take] at this; omega
 obtain⟨h1,tk,rfl,hk⟩:=x.done
 have noA:∀ b:Addr,b∉(cxOf CX P w K mg base N qual scope f cd A outer s H E).ex:=fun b z=>absurd (show b∈([]:List Addr) from z) (by simp)
 refine⟨⟨e0.mod,S.kind,rfl,rfl,Nat.le_refl _,fun y z c h1 h2=>?_,fun y hy=>?_,fun y c _ h=>?_,fun _=>hd,Around.frames_deeper e0.frames,.inr ⟨rfl,rfl⟩,fun b z=>absurd z (noA b),e0.bs,e0.bsz,fun b _ _=>noA b,fun b z=>absurd z (noA b),e0.funs,e0.frf⟩,
  rfl,e0.bare,Un.kept hk,⟨_,x.toInCall.ns,fun i y v h1 h2 h3=>?_⟩,fun y c h=>⟨_,x.cell y c h⟩,e0.hok.fresh (Nat.le_refl _),fun y c h=>?_,fun p hp=>absurd (show p∈([]:List (Addr×Obj)) from hp) (by simp),e0.hok.kept hk,?_⟩
 ·exact name_of_addr x.apart (PySem.mem_of_lookup h1) (PySem.mem_of_lookup h2)
 ·have hy:scope.names.lookup y=some .cell∨scope.names.lookup y=some .free:=hy
  rcases hy with hy | hy
  ·exact QdY hy
  ·exact absurd rfl (S.nofree _ (PySem.mem_of_lookup hy))
 ·exact Nat.le_of_lt (x.above y c (PySem.mem_of_lookup h))
 ·have hi:i<vs.length:=by
   unfold start at h2
   by_cases hi:i<vs.length
   ·exact hi
   ·rw [List.getElem?_append_right (by simpa using hi)] at h2
    rw [List.getElem?_replicate] at h2
    split at h2 <;> cases h2
  have ha:vs[i]?=some v:=by
   unfold start at h2
   rw [List.getElem?_append_left (by simpa using hi),List.getElem?_map] at h2
   cases e:vs[i]? with
   | none=>rw [e] at h2; cases h2
   | some a=>rw [e] at h2; cases h2; rfl
  obtain⟨u,hu,rv⟩:=r.get ha
  have hp:ps[i]?=some y:=by
   rw [← S.pre,List.getElem?_take_of_lt (by omega)]; exact h1
  have ndP:ps.Nodup:=by rw [← S.pre]; exact S.nd.sublist (List.take_sublist _ _)
  refine⟨u,rv,?_⟩
  rcases S.par y (List.mem_of_getElem? hp) with k | k
  ·exact .inl ⟨k,QcO ndP hp hu k⟩
  ·obtain⟨c,e⟩:=QdY (n:=s.heap.objs.size+1) k
   refine .inr ⟨.inl k,c,e,?_⟩
   have q:=x.cell y c e
   rw [QcP ndP hp hu (by show scope.names.lookup y≠_; rw [k]; decide)] at q
   exact q
 ·exact e0.hok.fresh (Nat.le_of_lt (x.above y c (PySem.mem_of_lookup h)))
 ·unfold start
  show _=N.length
  rw [List.length_append,List.length_map,List.length_replicate]
  omega
theorem QjT {CX:CXT} {P:Program} {w:World} {K:PySem.W.Frag} {mg:Str->Option Value} {base:Heap} {k:Nat} {f:Addr} {name qual:Str} {params:Arguments} {body:List Stmt} {scope:Scope} {dV kV doc pm cdv ct oc:Value} {an od:Option Addr}
  {osl:Array (Option Value)} {N ps:List Str} {sp:Sp} (lk:K.lookup f=some ⟨oc,od,.func (PySem.W.fnOf name qual params body scope dV kV doc pm an cdv ct),osl⟩) (hcd:PySem.W.codeIn K cdv qual=true) (S:FnScope N ps scope)
  (len:∀ vs H Q E,sp vs H Q E->vs.length=ps.length)
  (hbody:∀(A:Around) (outer:List Env) (s:Shared) (H:Hp) (vs:List V) (Q:VK) (E:XK),Room k (A.deeper (envOfC qual scope s.heap.objs.size f cdv))->sp vs H Q E ->
   ∃ t,PSs (cxOf CX P w K mg base N qual scope f cdv A outer s H E) body t∧t { nx:=fun _ H'=>Q .non H',rt:=Q } (start N vs) H) :
  FnOk P w K mg base CX (k+1) f (PySem.W.fnOf name qual params body scope dV kV doc pm an cdv ct) ps sp:=by
 refine⟨len,fun A outer s H args us vs Q E hr e0 hb r hsp=>?_⟩
 have hl:=len _ _ _ _ hsp
 have KX:K.In s.heap:=e0.mod.kin.keeps fun b o e=>(e0.bs b o e).1
 have lim:s.heap.NoLimit:=e0.mod.nolimit.keeps fun b o e=>(e0.bs b o e).1
 have hkind:∀ y∈ps.zip us,scope.names.lookup y.1=some .local∨(scope.names.lookup y.1=some .cell∧((cellsFrom (s.heap.objs.size+1) scope.names []).lookup y.1).isSome=true):=fun⟨n,v⟩ hy=>by
  rcases S.par n (List.of_mem_zip hy).1 with q | q
  ·exact .inl q
  ·exact .inr ⟨q,PySem.W.cellsFrom_some _ _ _ (.inl q)⟩
 refine codeAny_call_function hr.depth (KX _ _ lk) rfl S.co S.gen rfl (PySem.W.codeRec_of KX hcd) (hb _ _ _ _ ?_)
 refine wpAny_newFunctionEnv_cells S.kind hkind fun env he s1 x=>?_
 subst he
 refine⟨lim.keeps x.toInCall.keep,codeAny_func ?_⟩
 obtain⟨t,ht,hq⟩:=hbody A outer s H vs Q E (hr.deeper _) hsp
 have I:Inv (cxOf CX P w K mg base N qual scope f cdv A outer s H E) [] (start N vs) H s1:=Qfw S hr.hd e0 hl r x
 refine wpAny_mono (ht [] s1 (start N vs) H _ I hq) (fun fl s' hs=>?_) fun e s' hs=>hs
 have fin:∀ {σ':St} {H':Hp} {v:V} {u:Value},Inv (cxOf CX P w K mg base N qual scope f cdv A outer s H E) [] σ' H' s'->RelV v u->Q v H'->CE outer P w H s Q u s' :=
  fun {σ' H' v u} J rv q=>⟨v,H',J.os,J.bare,J.base,J.hok,rv,q⟩
 cases fl with
 | ret u =>
  obtain⟨v,σ',H',J,rv,q⟩:=hs
  exact fin J rv q
 | next =>
  obtain⟨σ',H',J,q⟩:=hs
  exact fin (v:=V.non) (u:=Value.none) J rfl q
 | brk =>
  obtain⟨_,_,_,q⟩:=hs
  exact False.elim q
 | cont =>
  obtain⟨_,_,_,q⟩:=hs
  exact False.elim q
end L2
namespace L2
open PySem PySem.Spec PyProof.Rows
section
variable {X:Cx} {x:Str} {p pos:Pos} {e:Expr} {es:List Expr} {t:TA} {id T:String} {r:List V->Hp->VK->Prop}
noncomputable def tCB (r:List V->Hp->VK->Prop) (t:TA):TE:=fun σ H Q=>t σ H fun vs H1=>r vs H1 Q
theorem QaU (hc:CallR X (.builtin id) r) (hg:Gl X x) (hm:X.mg x=none) (hv:bootBuiltins x=some (.builtin id)) (ha:PA X (e::es) t) (hn:x ≠ "__name__":=by decide) (hdb:(x == ("__debug__" : Str))=false:=by decide)
  (he:starEach (e::es) X.env=(false,eval e X.env)::starEach es X.env:=by rfl) (hpl:(backTo pos (starEach es X.env)).any (·.1)=false:=by rfl):PE X (.Call (.Name x p) (e::es) [] pos) (tCB r t):=by
 intro pins s σ H Q I h
 refine wpAny_Call_Name_kw (Qa6 I hg hm hv ?_ hn hdb)
 exact PyProof.Rows.callWith_builtin1 (thn (ha pos pins s σ H _ I h) fun us s1 ⟨vs,H1,I1,r1,q1⟩=>hc pins s1 σ H1 vs us Q I1 r1 q1) he hpl
theorem Qfx (hc:CallR X (.type T) r) (hg:Gl X x) (hm:X.mg x=none) (hv:bootBuiltins x=some (.type T)) (ha:PA X (e::es) t) (hn:x ≠ "__name__":=by decide) (hdb:(x == ("__debug__" : Str))=false:=by decide)
  (he:starEach (e::es) X.env=(false,eval e X.env)::starEach es X.env:=by rfl) (hpl:(backTo pos (starEach es X.env)).any (·.1)=false:=by rfl):PE X (.Call (.Name x p) (e::es) [] pos) (tCB r t):=by
 intro pins s σ H Q I h
 refine wpAny_Call_Name_kw (Qa6 I hg hm hv ?_ hn hdb)
 exact PyProof.Rows.callWith_type1 (thn (ha pos pins s σ H _ I h) fun us s1 ⟨vs,H1,I1,r1,q1⟩=>hc pins s1 σ H1 vs us Q I1 r1 q1) he hpl
end
end L2
namespace HT
open PySem PyProof.Rows
section
open PySem.SeqAt
open PySem.AutoSeq1 (wpAny_loadPart')
open PySem.MeetsSeq PySem.MeetsSeq2 PySem.MeetsSeq3
end
section
variable {prog:Program} {w:World} {A:Around} {E:Value->Shared->Prop} {s:Shared}
theorem cat_tup {t b:Addr} {vs ws:List Value} {Q:Value->Shared->Prop} (ht:IsTup s.heap t vs.toArray) (hb:IsTup s.heap b ws.toArray) (hv:vs≠[])
  (h1:ws=[]->Q (.ref t) s) (h2:ws≠[]->Q (.ref s.heap.objs.size) { s with heap:=s.heap.push { cls:=.type "tuple",data:=.seq (vs++ws).toArray } })
  (hsz:vs.length+ws.length≤sizeLine):wpAny (model prog w) A (binaryOp .Add (.ref t) (.ref b)) Q E s:=by
 obtain⟨⟨cls,dd,data,sl⟩,ho,hc,n,hd⟩:=id ht
 obtain⟨⟨cls2,dd2,data2,sl2⟩,ho2,hc2,n2,hd2⟩:=id hb
 simp only at hc hd hc2 hd2
 subst hc hd hc2 hd2
 have e:vs.toArray++ws.toArray=(vs++ws).toArray:=by simp
 by_cases hw:ws=[]
 ·exact concat_meets ⟨_,ho,rfl⟩ ⟨_,ho2,rfl⟩ noFill_tuple_add seq_tuple_add PySem.F.slot_tuple_add PySem.F.entry_tuple_add (PySem.F.args_tuple_add_2 _ _)
   (tuple_addW1 t b vs.toArray ws.toArray n n2 dd dd2 sl sl2 (by simpa using hv) (by simp [hw])) ⟨ho,ho2,h1 hw⟩
 ·refine concat_meets ⟨_,ho,rfl⟩ ⟨_,ho2,rfl⟩ noFill_tuple_add seq_tuple_add PySem.F.slot_tuple_add PySem.F.entry_tuple_add (PySem.F.args_tuple_add_2 _ _)
   (tuple_addW2 t b vs.toArray ws.toArray n n2 dd dd2 sl sl2 (by simpa using hv) (by simpa using hw) (by rw [List.size_toArray,List.size_toArray]; exact hsz)) ⟨ho,ho2,?_⟩
  rw [e]
  exact h2 hw
noncomputable def sIx (n d:Nat):Option Int->Nat
 | none=>d
 | some v=>if v<0 then (v+(n:Int)).toNat else min v.toNat n
theorem QjU (n d:Nat) (hd:d≤n) (o:Option Int):sIx n d o≤n:=by
 cases o with
 | none=>exact hd
 | some v =>
  show(if v<0 then (v+(n:Int)).toNat else min v.toNat n)≤n
  by_cases hv:v<0
  ·rw [if_pos hv]; omega
  ·rw [if_neg hv]; exact Nat.min_le_right _ _
theorem Qfy (v:Int) (n d:Nat):(if v<0 then max (v+(n:Int)) 0 else min v (n:Int))=((sIx n d (some v):Nat):Int):=by
 show(if v<0 then max (v+(n:Int)) 0 else min v (n:Int))=(((if v<0 then (v+(n:Int)).toNat else min v.toNat n):Nat):Int)
 by_cases hv:v<0
 ·simp only [if_pos hv]; omega
 ·simp only [if_neg hv]; omega
theorem QeL (lo hi:Option Int) (n:Nat):Builtin.Slice.sliceAdjust lo hi 1 (n:Int)=(((sIx n 0 lo:Nat):Int),((sIx n n hi:Nat):Int)):=by
 have h1:¬ ((1:Int)<0):=by omega
 unfold Builtin.Slice.sliceAdjust
 simp only [h1,if_false]
 refine Prod.ext ?_ ?_
 ·cases lo with
  | none=>rfl
  | some v=>exact Qfy v n 0
 ·cases hi with
  | none=>rfl
  | some v=>exact Qfy v n n
theorem QeM (i j:Nat):Builtin.Slice.slicePlaces (i:Int) (j:Int) 1=j - i:=by
 unfold Builtin.Slice.slicePlaces
 have h1:(1:Int) > 0:=by omega
 simp only [h1,if_true,Int.ediv_one]
 split <;> omega
theorem Qb0 {v:Value} {o:Option Int} {Q:Option Int->Shared->Prop} (p:IsPart v o) (h:Q o s):wpAny (model prog w) A (Builtin.Slice.slicePartIndex v) Q E s:=by
 cases p with
 | none=>exact slicePart_none h
 | int i t=>exact slicePart_int h
theorem sliceApplied_gen {sl:Addr} {vl vu:Value} {lo hi:Option Int} {n:Nat} {Q:Int×Int×Nat->Shared->Prop} (hs:s.heap.IsSliceOf sl vl vu .none) (pl:IsPart vl lo) (pu:IsPart vu hi)
  (h:Q (((sIx n 0 lo:Nat):Int),1,sIx n n hi - sIx n 0 lo) s):wpAny (model prog w) A (Builtin.Slice.sliceApplied (.ref sl) (pure (n:Int))) Q E s:=by
 obtain⟨os,hos,hcs,hds⟩:=id hs
 unfold Builtin.Slice.sliceApplied Builtin.Slice.sliceFields
 refine wpAny_bind (wpAny_bind (wpAny_field hos hds (x:=vl) rfl (wpAny_bind (wpAny_field hos hds (x:=vu) rfl (wpAny_bind (wpAny_field hos hds (x:=.none) rfl (wpAny_pure ?_)))))))
 refine wpAny_bind (slicePart_none ?_)
 show wpAny _ _ (if ((1:Int) == 0)=true then _ else _) _ _ s
 rw [if_neg (by decide)]
 refine wpAny_bind (Qb0 pl (wpAny_bind (Qb0 pu (wpAny_bind (wpAny_pure ?_)))))
 show wpAny _ _ (match Builtin.Slice.sliceAdjust lo hi 1 (n:Int) with | (lo,hi)=>pure (lo,(1:Int),Builtin.Slice.slicePlaces lo hi 1)) _ _ s
 rw [QeL lo hi n]
 show wpAny _ _ (pure (((sIx n 0 lo:Nat):Int),(1:Int),Builtin.Slice.slicePlaces ((sIx n 0 lo:Nat):Int) ((sIx n n hi:Nat):Int) 1)) _ _ s
 rw [QeM]
 exact wpAny_pure h
theorem Qg7 (xs:Array Value) (i k:Nat):((List.range k).filterMap fun(m:Nat)=>xs[((i:Int)+(m:Int)*1).toNat]?).toArray=((xs.toList.drop i).take k).toArray:=by
 have e:(fun(m:Nat)=>xs[((i:Int)+(m:Int)*1).toNat]?)=fun m=>xs[i+m]?:=by
  funext m
  have:((i:Int)+(m:Int)*1).toNat=i+m:=by omega
  rw [this]
 rw [e]
 have:=pick_run xs i k
 rw [List.filterMap_map] at this
 have e2:((fun x=>xs[x]?) ∘ fun x=>i+x)=fun m=>xs[i+m]?:=rfl
 rw [e2] at this
 rw [this]
theorem getItem_tuple_cut {t sl:Addr} {items:Array Value} {vl vu:Value} {lo hi:Option Int} {Q:Value->Shared->Prop} (ht:IsTup s.heap t items) (hs:s.heap.IsSliceOf sl vl vu .none) (pl:IsPart vl lo) (pu:IsPart vu hi)
  (hw:¬ (sIx items.size 0 lo=0∧sIx items.size items.size hi=items.size))
  (h:Q (.ref s.heap.objs.size) { s with heap:=s.heap.push { cls:=.type "tuple",data:=.seq ((items.toList.drop (sIx items.size 0 lo)).take (sIx items.size items.size hi - sIx items.size 0 lo)).toArray } })
  (hsz:items.size≤sizeLine):wpAny (model prog w) A (getItem (.ref t) (.ref sl)) Q E s:=by
 have htake:sizeOk (.seq ((items.toList.drop (sIx items.size 0 lo)).take (sIx items.size items.size hi - sIx items.size 0 lo)).toArray):=by
  show((items.toList.drop (sIx items.size 0 lo)).take (sIx items.size items.size hi - sIx items.size 0 lo)).toArray.size≤sizeLine
  rw [List.size_toArray,List.length_take,List.length_drop,Array.length_toList]
  omega
 have hj:sIx items.size items.size hi≤items.size:=QjU _ _ (Nat.le_refl _) hi
 obtain⟨os,hos,hcs,hds⟩:=id hs
 have hTs:s.TypeIs (.ref sl) "slice":=⟨os,hos,hcs⟩
 unfold getItem
 try with_reducible refine wpAny_holding ?_
 first | refine wpAny_bind (wpAny_pure ?_) | skip
 refine wpAny_bind (wpAny_sequenceKey ht.typeIs (by decide) ?_)
 refine wpAny_bind (wpAny_callSpecial?_slot (name:=Str.ofString "__getitem__") ht.typeIs PyProof.Rows.slot_tuple_getitem
  (wpAny_call_entry PyProof.Rows.slot_tuple_getitem ht.typeIs entry_tuple_getitem ?_ (args_tuple_getitem _ _)))
 show wpAny _ _ (Builtin.Tuple.tupleItemsOf (.ref t) >>= _) _ _ s
 refine wpAny_bind (tupleItemsOf_ ht ?_)
 refine wpAny_bind (wpAny_typeOf hTs ?_)
 rw [if_pos (by decide)]
 refine wpAny_bind (sliceApplied_gen hs pl pu ?_)
 have hno:¬ ((((sIx items.size 0 lo:Nat):Int) == 0 && (1:Int) == 1 && (sIx items.size items.size hi - sIx items.size 0 lo) == items.size)=true):=by
  intro q
  rw [Bool.and_eq_true,Bool.and_eq_true] at q
  have q1:((sIx items.size 0 lo:Nat):Int)=0:=eq_of_beq q.1.1
  have q2:sIx items.size items.size hi - sIx items.size 0 lo=items.size:=eq_of_beq q.2
  exact hw ⟨by omega,by omega⟩
 show wpAny _ _ (if (((sIx items.size 0 lo:Nat):Int) == 0 && (1:Int) == 1 && (sIx items.size items.size hi - sIx items.size 0 lo) == items.size)=true then _ else _) _ _ s
 rw [if_neg hno,Qg7]
 first
  | exact wpAny_bind (m:=Builtin.Tuple.tupleExact _) (wpAny_newObj_type (wpAny_pure ⟨_,rfl,wpAny_pure h⟩) htake)
  | exact wpAny_bind (m:=Builtin.Tuple.tupleExact _) (wpAny_newObj_type (wpAny_bind (wpAny_pure (wpAny_pure ⟨_,rfl,wpAny_pure h⟩))) htake)
  | exact wpAny_bind (wpAny_bind (m:=Builtin.Tuple.tupleExact _) (wpAny_newObj_type (wpAny_pure (wpAny_pure ⟨_,rfl,wpAny_pure h⟩)) htake))
  | exact wpAny_bind (wpAny_bind (m:=Builtin.Tuple.tupleExact _) (wpAny_newObj_type (wpAny_pure ⟨_,rfl,wpAny_pure h⟩) htake))
end
end HT
namespace L2
open PySem PySem.Spec PyProof.Rows
noncomputable abbrev TO:=St->Hp->(Option Int->Hp->Prop)->Prop
noncomputable def PO (X:Cx) (e:Option Expr) (t:TO):Prop :=
 ∀(pins:List (Addr×Obj)) (s:Shared) (σ:St) (H:Hp) (Q:Option Int->Hp->Prop),Inv X pins σ H s->t σ H Q ->
  wpAny (model X.prog X.w) X.A (evalPart e X.env) (fun u s'=>∃ o H',Inv X pins σ H' s'∧IsPart u o∧Q o H') X.xe s
noncomputable def Qiv:TO:=fun _ H Q=>Q none H
noncomputable def Qlf (t:TE):TO:=fun σ H Q=>t σ H fun x H1=>∃ i,x=.int i∧Q (some i) H1
section
variable {X:Cx} {e:Expr} {te:TE} {lo hi:Option Expr} {tl th:TO} {pos p2:Pos}
theorem Qiw:PO X none Qiv:=by
 intro pins s σ H Q I h
 rw [evalPart_none]
 exact wpAny_pure ⟨none,H,I,.none,h⟩
theorem Qix (h:PE X e te):PO X (some e) (Qlf te):=by
 intro pins s σ H Q I hw
 rw [evalPart_some]
 refine thn (h pins s σ H _ I hw) fun u s1 ⟨x,H1,I1,r1,q1⟩=>?_
 obtain⟨i,rfl,q⟩:=q1
 obtain⟨t,rfl⟩:=r1
 exact⟨some i,H1,I1,.int i t,q⟩
noncomputable def SlR (X:Cx) (r:V->Option Int->Option Int->Hp->VK->Prop):Prop :=
 ∀(pins:List (Addr×Obj)) (s:Shared) (σ:St) (H:Hp) (x:V) (v vl vu:Value) (lo hi:Option Int) (sl:Addr) (Q:VK),Inv X pins σ H s->RelV x v->s.heap.IsSliceOf sl vl vu .none->IsPart vl lo->IsPart vu hi->r x lo hi H Q ->
  ∃ T id,typeLookup (.type T) "__getitem__" = pure (some (.builtin id))∧s.TypeIs v T∧wpAny (model X.prog X.w) X.A (getItem v (.ref sl)) (EP X pins σ Q) X.xe s
theorem SlR.or {r r':V->Option Int->Option Int->Hp->VK->Prop} (h:SlR X r) (h':SlR X r'):SlR X (fun x lo hi H Q=>r x lo hi H Q∨r' x lo hi H Q):=by
 intro pins s σ H x v vl vu lo hi sl Q I rx hs pl pu q
 rcases q with q | q
 ·exact h pins s σ H x v vl vu lo hi sl Q I rx hs pl pu q
 ·exact h' pins s σ H x v vl vu lo hi sl Q I rx hs pl pu q
noncomputable def tSl (r:V->Option Int->Option Int->Hp->VK->Prop) (te:TE) (tl th:TO):TE:=fun σ H Q=>te σ H fun x H1=>tl σ H1 fun l H2=>th σ H2 fun u H3=>r x l u H3 Q
theorem Qg8 {r:V->Option Int->Option Int->Hp->VK->Prop} (hr:SlR X r) (he:PE X e te) (hl:PO X lo tl) (hu:PO X hi th):PE X (.Subscript e (.Slice lo hi none p2) pos) (tSl r te tl th):=by
 intro pins s σ H Q I h
 refine Subscript_ (thn (he pins s σ H _ I h) fun v s1 ⟨x,H1,I1,r1,q1⟩=>?_)
 refine wpAny_Slice (thn (hl pins s1 σ H1 _ I1 q1) fun vl s2 ⟨l,H2,I2,pl,q2⟩=>thn (hu pins s2 σ H2 _ I2 q2) fun vu s3 ⟨u,H3,I3,pu,q3⟩=>?_)
 rw [evalPart_none]
 refine wpAny_pure ?_
 have I4:Inv X pins σ H3 { s3 with heap:=s3.heap.push { cls:=.type "slice",data:=.fields #[vl,vu,.none] } }:=I3.kept (t':=s3.toks) fun b ob q=>Heap.get?_push_of_some _ q
 obtain⟨T,id,hT,ht,hg⟩:=hr pins { s3 with heap:=s3.heap.push { cls:=.type "slice",data:=.fields #[vl,vu,.none] } } σ H3 x v vl vu l u s3.heap.objs.size Q I4 r1 (Heap.IsSliceOf.new ..) pl pu q3
 show wpAny (model X.prog X.w) X.A (subscriptTail e (.Slice lo hi none p2) v (.ref s3.heap.objs.size)) (EP X pins σ Q) X.xe { s3 with heap:=s3.heap.push { cls:=.type "slice",data:=.fields #[vl,vu,.none] } }
 exact tail_any (ops:=[.ref s3.heap.objs.size,v]) ht hT hg (by with_unfolding_all rfl)
noncomputable def cutV (xs:List V) (lo hi:Option Int):List V:=(xs.drop (HT.sIx xs.length 0 lo)).take (HT.sIx xs.length xs.length hi - HT.sIx xs.length 0 lo)
theorem Qba (xs:List V) (lo hi:Option Int):(cutV xs lo hi).length≤xs.length:=by
 unfold cutV
 rw [List.length_take,List.length_drop]
 omega
noncomputable def rSlT (K:PySem.W.Frag):V->Option Int->Option Int->Hp->VK->Prop:=fun x lo hi H Q=>∃ a xs,x=.ref a∧SqT K H a xs ∧
 ¬ (HT.sIx xs.length 0 lo=0∧HT.sIx xs.length xs.length hi=xs.length)∧∀ p,H p=none->Q (.ref p) (upd H p (.tup (cutV xs lo hi)))
theorem sl_tup:SlR X (rSlT X.K):=by
 intro pins s σ H x v vl vu lo hi sl Q I rx hs pl pu h
 obtain⟨a,xs,rfl,hx,hw,q⟩:=h
 cases rx
 obtain⟨its,r,ht,hz⟩:=I.tuple hx
 have hlen:its.toArray.size=xs.length:=by rw [List.size_toArray]; exact r.length.symm
 refine⟨"tuple",_,PyProof.Rows.slot_tuple_getitem.lookup,ht.typeIs,?_⟩
 refine HT.getItem_tuple_cut ht hs pl pu (by rw [hlen]; exact hw) ?_ (by rw [hlen]; exact hz)
 rw [hlen]
 refine⟨.ref s.heap.objs.size,_,I.laid (t':=s.toks) (o:=.tup (cutV xs lo hi)) (fun b ob q=>Heap.get?_push_of_some _ q) (Nat.le_refl _) ?_,rfl,q _ (I.hok.fresh (Nat.le_refl _))⟩
 exact⟨Nat.le_trans (Qba xs lo hi) hz,_,(r.drop (HT.sIx xs.length 0 lo)).take (HT.sIx xs.length xs.length hi - HT.sIx xs.length 0 lo),IsTup.new _ _⟩
noncomputable def QjV (K:PySem.W.Frag):R2:=fun x y H Q=>∃ a b xs ys,x=.ref a∧y=.ref b∧SqT K H a xs∧SqT K H b ys∧xs≠[]∧xs.length+ys.length≤sizeLine ∧
 (ys=[]->Q (.ref a) H)∧(ys≠[]->∀ p,H p=none->Q (.ref p) (upd H p (.tup (xs++ys))))
theorem Vals.nil_iff {xs:List V} {us:List Value} (r:Vals xs us):us=[]↔xs=[]:=by
 cases r with
 | nil=>simp
 | cons _ _=>simp
theorem Qiy:OpR X (binaryOp .Add) (QjV X.K):=by
 intro pins s σ H x y v u Q I rx ry h
 obtain⟨a,b,xs,ys,rfl,rfl,ha,hb,hx,hz,q1,q2⟩:=h
 cases rx
 cases ry
 obtain⟨its,r1,p1,_⟩:=I.tuple ha
 obtain⟨its2,r2,p2,_⟩:=I.tuple hb
 refine HT.cat_tup p1 p2 (fun z=>hx (r1.nil_iff.mp z)) (fun z=>⟨.ref a,H,I,rfl,q1 (r2.nil_iff.mp z)⟩) (fun z=>?_) (by rw [← r1.length,← r2.length]; exact hz)
 refine⟨.ref s.heap.objs.size,_,I.laid (t':=s.toks) (o:=.tup (xs++ys)) (fun b ob q=>Heap.get?_push_of_some _ q) (Nat.le_refl _) ?_,rfl,q2 (fun w=>z (r2.nil_iff.mpr w)) _ (I.hok.fresh (Nat.le_refl _))⟩
 exact⟨by rw [List.length_append]; exact hz,_,r1.append r2,IsTup.new _ _⟩
end
end L2
namespace L2
open PySem PySem.Spec PyProof.Rows
noncomputable def ixN (n:Nat) (i:Int):Option Nat:=if 0≤i then (if i<n then some i.toNat else none) else if -(n:Int)≤i then some (i+n).toNat else none
noncomputable def atI {α:Type} (xs:List α) (i:Int):Option α:=(ixN xs.length i).bind fun j=>xs[j]?
theorem Qfz {n:Nat} {i:Int} {j:Nat} (h:ixN n i=some j):seqIndex? i n=some j∧j<n ∧ -(n:Int)≤i∧i<n:=by
 unfold ixN at h
 by_cases h0:0≤i
 ·rw [if_pos h0] at h
  by_cases h1:i<n
  ·rw [if_pos h1] at h
   have e:i.toNat=j:=Option.some.inj h
   exact⟨by rw [seqIndex_of h0 h1,e],by omega,by omega,h1⟩
  ·rw [if_neg h1] at h; cases h
 ·rw [if_neg h0] at h
  by_cases h1 : -(n:Int)≤i
  ·rw [if_pos h1] at h
   have e:(i+n).toNat=j:=Option.some.inj h
   exact⟨by rw [seqIndex_neg (by omega) h1,e],by omega,h1,by omega⟩
  ·rw [if_neg h1] at h; cases h
theorem Qdm {α:Type} {xs:List α} {i:Int} {v:α} (h:atI xs i=some v):∃ j,seqIndex? i xs.length=some j∧xs[j]?=some v∧j<xs.length ∧ -(xs.length:Int)≤i∧i<xs.length:=by
 unfold atI at h
 cases e:ixN xs.length i with
 | none=>rw [e] at h; cases h
 | some j =>
  rw [e] at h
  obtain⟨h1,h2,h3,h4⟩:=Qfz e
  exact⟨j,h1,h,h2,h3,h4⟩
noncomputable def Qdn (b:Expr):Prop:=∀ o i,subscripted b false o i=operate [o,i] (getItem o i)
noncomputable def IxR (X:Cx) (r:R2):Prop :=
 ∀(value slice:Expr) (pins:List (Addr×Obj)) (s:Shared) (σ:St) (H:Hp) (x y:V) (v u:Value) (Q:VK),Inv X pins σ H s->RelV x v->RelV y u->r x y H Q ->
  subscripted slice false v u=operate [v,u] (getItem v u)->wpAny (model X.prog X.w) X.A (subscriptTail value slice v u) (EP X pins σ Q) X.xe s
noncomputable def MtR (X:Cx) (id:String) (r:V->List V->Hp->VK->Prop):Prop :=
 ∀(pins:List (Addr×Obj)) (s:Shared) (σ:St) (H:Hp) (x:V) (xs:List V) (v:Value) (us:List Value) (Q:VK),Inv X pins σ H s->RelV x v->Vals xs us->r x xs H Q ->
  wpAny (model X.prog X.w) X.A (call (.builtin id) (v::us)) (EP X pins σ Q) X.xe s
section
variable {X:Cx} {a b:Expr} {ta tb:TE} {pos:Pos}
theorem IxR.or {r r':R2} (h:IxR X r) (h':IxR X r'):IxR X (fun x y H Q=>r x y H Q∨r' x y H Q):=by
 intro value slice pins s σ H x y v u Q I rx ry q hs
 rcases q with q | q
 ·exact h value slice pins s σ H x y v u Q I rx ry q hs
 ·exact h' value slice pins s σ H x y v u Q I rx ry q hs
theorem MtR.or {id:String} {r r':V->List V->Hp->VK->Prop} (h:MtR X id r) (h':MtR X id r'):MtR X id (fun x xs H Q=>r x xs H Q∨r' x xs H Q):=by
 intro pins s σ H x xs v us Q I rx rs q
 rcases q with q | q
 ·exact h pins s σ H x xs v us Q I rx rs q
 ·exact h' pins s σ H x xs v us Q I rx rs q
theorem Qlg {r:R2} (hr:IxR X r) (ha:PE X a ta) (hb:PE X b tb) (hs:Qdn b):PE X (.Subscript a b pos) (tOp r ta tb):=by
 intro pins s σ H Q I h
 exact Subscript_ (binT ha hb I h fun v u s2 x y H2 I2 rx ry q=>hr a b pins s2 σ H2 x y v u Q I2 rx ry q (hs _ _))
noncomputable def rIxL (K:PySem.W.Frag):R2:=fun x y H Q=>∃ p xs i v,x=.ref p∧y=.int i∧SqL K H p xs∧atI xs i=some v∧Q v H
noncomputable def rIxT (K:PySem.W.Frag):R2:=fun x y H Q=>∃ p xs i v,x=.ref p∧y=.int i∧SqT K H p xs∧atI xs i=some v∧Q v H
noncomputable def rIxS:R2:=fun x y H Q=>∃ z i c,x=.str z∧y=.int i∧z.length≤sizeLine∧atI z.cps.toList i=some c∧Q (.str ⟨#[c]⟩) H
theorem ix_list:IxR X (rIxL X.K):=by
 intro value slice pins s σ H x y v u Q I rx ry h hs
 obtain⟨p,xs,i,z,rfl,rfl,hq,he,q⟩:=h
 cases rx
 obtain⟨t,rfl⟩:=ry
 obtain⟨its,r,pl,hz⟩:=I.list hq
 obtain⟨j,h1,h2,h3,h4,h5⟩:=Qdm he
 obtain⟨w,ew,rw'⟩:=r.get h2
 have hl:=r.length
 have hn:=QcL
 have fin:EP X pins σ Q w s:=⟨z,H,I,rw',q⟩
 by_cases h0:0≤i
 ·have hj:i.toNat=j:=by
   rw [seqIndex_of h0 h5] at h1
   exact Option.some.inj h1
  exact item_listR pl.isList h0 (by omega) (by rw [hj]; simpa using ew) fin hs
 ·have hj:(i+(its.toArray.size:Int)).toNat=j:=by
   rw [seqIndex_neg (by omega) h4] at h1
   rw [List.size_toArray,← hl]
   exact Option.some.inj h1
  exact subscriptTail_builtinR (x:=w) pl.isList.typeIs slot_list_getitem.lookup
   (wpAny_getItem_list_neg (Q:=fun r s'=>r=w∧EP X pins σ Q r s') pl.isList (by omega) (by rw [List.size_toArray] <;> omega) (by omega) (by rw [hj]; simpa using ew) ⟨rfl,fin⟩) hs
theorem ix_tup:IxR X (rIxT X.K):=by
 intro value slice pins s σ H x y v u Q I rx ry h hs
 obtain⟨p,xs,i,z,rfl,rfl,hq,he,q⟩:=h
 cases rx
 obtain⟨t,rfl⟩:=ry
 obtain⟨its,r,pl,hz⟩:=I.tuple hq
 obtain⟨j,h1,h2,h3,h4,h5⟩:=Qdm he
 obtain⟨w,ew,rw'⟩:=r.get h2
 have hl:=r.length
 have hn:=QcL
 have fin:EP X pins σ Q w s:=⟨z,H,I,rw',q⟩
 exact subscriptTail_builtinR (x:=w) pl.typeIs slot_tuple_getitem.lookup
  (getItem_tuple (j:=j) (Q:=fun r s'=>r=w∧EP X pins σ Q r s') pl (by omega) (by omega) (by rw [List.size_toArray,← hl]; exact h1) (by simpa using ew) ⟨rfl,fin⟩) hs
theorem QjW:IxR X rIxS:=by
 intro value slice pins s σ H x y v u Q I rx ry h hs
 obtain⟨z,i,c,rfl,rfl,hz,he,q⟩:=h
 obtain⟨t,rfl⟩:=rx
 obtain⟨t',rfl⟩:=ry
 obtain⟨j,h1,h2,h3,h4,h5⟩:=Qdm he
 have hl:z.cps.toList.length=z.length:=by simp [Str.length]
 rw [hl] at h1 h4 h5
 have hn:=QcL
 exact tail_any (typeIs_str s z t) slot_str_getitem.lookup (getItem_str (c:=c) (by
  have e1:decide (i < -(2 ^ 63:Int))=false:=decide_eq_false (by omega)
  have e2:decide (i≥2 ^ 63)=false:=decide_eq_false (by omega)
  rw [e1,e2,Bool.or_false]) (by rw [h1]; simpa using h2) ⟨.str ⟨#[c]⟩,H,I.tok _,⟨_,rfl⟩,q⟩) hs
noncomputable def rIx (K:PySem.W.Frag):R2:=fun x y H Q=>rIxL K x y H Q∨rIxT K x y H Q∨rIxS x y H Q
theorem QjX:IxR X (rIx X.K):=ix_list.or (ix_tup.or QjW)
theorem QeN (its:List Value) (n j:Nat) (u:Value):Obj.mapSeq (·.setIfInBounds j u) { cls:=.type "list",data:=.seq its.toArray n } = { cls:=.type "list",data:=.seq (its.set j u).toArray n }:=by
 simp [Obj.mapSeq]
theorem Inv.lst {pins:List (Addr×Obj)} {σ:St} {H:Hp} {s:Shared} {p:Addr} {xs:List V} (I:Inv X pins σ H s) (h:H p=some (.lst xs)) :
  ∃(its:List Value) (n:Nat),Vals xs its∧s.heap.get? p=some { cls:=.type "list",data:=.seq its.toArray n }∧xs.length≤sizeLine:=by
 obtain⟨z,its,n,r,e⟩:=I.hok p _ h
 exact⟨its,n,r,e,z⟩
theorem Inv.lstUpd {pins:List (Addr×Obj)} {σ:St} {H:Hp} {s:Shared} {p:Addr} {xs ys:List V} {its its':List Value} {n n':Nat} {f:Obj->Obj} (I:Inv X pins σ H s) (h:H p=some (.lst xs))
  (ho:s.heap.get? p=some { cls:=.type "list",data:=.seq its.toArray n }) (hf:f { cls:=.type "list",data:=.seq its.toArray n } = { cls:=.type "list",data:=.seq its'.toArray n' }) (r:Vals ys its') (hz:ys.length≤sizeLine) (t:Nat) :
  Inv X pins σ (upd H p (.lst ys)) { s with heap:=s.heap.update p f,toks:=t }:=by
 have e:(s.heap.update p f).get? p=some { cls:=.type "list",data:=.seq its'.toArray n' }:=by
  rw [Heap.get?_update_self f ho (by rw [hf] <;> rfl),hf]
 refine I.write (x:=p) (e:=p) (by rw [h]; trivial) (.inl rfl) (fun b u hb q=>(Heap.get?_update_other _ _ (Ne.symm hb)).trans q) ⟨_,e⟩ ?_
 exact⟨hz,its',n',r,e⟩
noncomputable def Qlh:V->V->V->Hp->(Hp->Prop)->Prop:=fun o i v H Q=>∃ p xs k j,o=.ref p∧i=.int k∧H p=some (.lst xs)∧ixN xs.length k=some j∧Q (upd H p (.lst (xs.set j v)))
theorem Qg9:PSet X Qlh:=by
 intro pins s σ H o i v ov iv u Q I ro ri rv h
 obtain⟨p,xs,k,j,rfl,rfl,hp,hj,q⟩:=h
 cases ro
 obtain⟨t,rfl⟩:=ri
 obtain⟨its,n,r,ho,hz⟩:=I.lst hp
 obtain⟨h1,h2,h3,h4⟩:=Qfz hj
 have hl:=r.length
 have hn:=QcL
 have I':Inv X pins σ (upd H p (.lst (xs.set j v))) { s with heap:=s.heap.update p (Obj.mapSeq (·.setIfInBounds j u)) } :=
  I.lstUpd hp ho (QeN its n j u) (r.set rv j) (by rw [List.length_set]; exact hz) s.toks
 by_cases h0:0≤k
 ·have hk:k.toNat=j:=by
   rw [seqIndex_of h0 h4] at h1
   exact Option.some.inj h1
  exact PySem.W.ki_setAt ho h0 (by omega) (by rw [List.size_toArray,← hl]; exact h4) (by rw [hk]; exact⟨_,I',q⟩)
 ·have hk:(k+(its.toArray.size:Int)).toNat=j:=by
   rw [seqIndex_neg (by omega) h3] at h1
   rw [List.size_toArray,← hl]
   exact Option.some.inj h1
  exact PySem.W.ki_setBack ho (by omega) (by rw [List.size_toArray,← hl]; exact h3) (by omega) (by rw [hk]; exact⟨_,I',q⟩)
theorem QcQ (lo hi:Option Int) (n:Nat):(sliceBounds lo hi none n).1=((HT.sIx n 0 lo:Nat):Int)∧(sliceBounds lo hi none n).2.1=((HT.sIx n n hi:Nat):Int)∧(sliceBounds lo hi none n).2.2=1:=by
 refine⟨?_,?_,rfl⟩
 ·cases lo with
  | none=>simp [sliceBounds,HT.sIx]
  | some i =>
   simp only [sliceBounds,HT.sIx,Option.getD_none,show(1:Int) > 0 by decide,if_true]
   by_cases h:i<0
   ·simp only [h,if_true] <;> omega
   ·simp only [h,if_false] <;> omega
 ·cases hi with
  | none=>simp [sliceBounds,HT.sIx]
  | some i =>
   simp only [sliceBounds,HT.sIx,Option.getD_none,show(1:Int) > 0 by decide,if_true]
   by_cases h:i<0
   ·simp only [h,if_true] <;> omega
   ·simp only [h,if_false] <;> omega
theorem Qce (its:List Value) (lo hi:Option Int):slicePick its.toArray lo hi none=((its.drop (HT.sIx its.length 0 lo)).take (HT.sIx its.length its.length hi - HT.sIx its.length 0 lo)).toArray:=by
 obtain⟨h1,h2,h3⟩:=QcQ lo hi its.toArray.size
 unfold slicePick
 rw [h1,h2,h3]
 simp only [sliceRange_one,pick_run,List.size_toArray] <;> rfl
noncomputable def rSlL (K:PySem.W.Frag):V->Option Int->Option Int->Hp->VK->Prop:=fun x lo hi H Q=>∃ a xs,x=.ref a∧SqL K H a xs∧∀ p,H p=none->Q (.ref p) (upd H p (.lst (cutV xs lo hi)))
theorem Qiz:SlR X (rSlL X.K):=by
 intro pins s σ H x v vl vu lo hi sl Q I rx hs pl pu h
 obtain⟨a,xs,rfl,hx,q⟩:=h
 cases rx
 obtain⟨its,r,ht,hz⟩:=I.list hx
 have hlen:=r.length
 refine⟨"list",_,slot_list_getitem.lookup,ht.isList.typeIs,?_⟩
 refine wpAny_getItem_list_slice ht.isList hs pl pu .none (by simp) ?_ (by rw [List.size_toArray] <;> omega)
 rw [Qce,← hlen]
 refine⟨.ref s.heap.objs.size,_,I.laid (t':=s.toks) (o:=.lst (cutV xs lo hi)) (fun b ob q=>Heap.get?_push_of_some _ q) (Nat.le_refl _) ?_,rfl,q _ (I.hok.fresh (Nat.le_refl _))⟩
 exact⟨Nat.le_trans (Qba xs lo hi) hz,_,0,(r.drop (HT.sIx xs.length 0 lo)).take (HT.sIx xs.length xs.length hi - HT.sIx xs.length 0 lo),Heap.get?_push_size _ rfl⟩
noncomputable def QbP:V->Bool
 | .non=>true
 | .bl _=>true
 | .int _=>true
 | .str _=>true
 | _=>false
noncomputable def eqV:V->V->Bool
 | .non,.non=>true
 | .bl a,.bl b=>a == b
 | .bl a,.int b=>(if a then 1 else 0) == b
 | .int a,.bl b=>a == (if b then 1 else 0)
 | .int a,.int b=>a == b
 | .str a,.str b=>a == b
 | _,_=>false
theorem QjY {A:Around} {s:Shared} {y x:V} {u v:Value} (ry:RelV y u) (rx:RelV x v) (fy:QbP y=true) (fx:QbP x=true):SeqAt.EqAt A s u v (eqV y x):=by
 cases y with
 | non =>
  cases ry
  cases x with
  | non=>cases rx; exact SeqAt.EqAt.same _
  | bl b=>cases rx; exact SeqAt.EqAt.none_bool b
  | int b=>obtain⟨t,rfl⟩:=rx; exact SeqAt.EqAt.none_int b t
  | str b=>obtain⟨t,rfl⟩:=rx; exact SeqAt.EqAt.none_str b t
  | _=>exact absurd (show false=true from fx) Bool.false_ne_true
 | bl a =>
  cases ry
  cases x with
  | non=>cases rx; exact SeqAt.EqAt.bool_none a
  | bl b=>cases rx; exact SeqAt.EqAt.bool_bool a b
  | int b=>obtain⟨t,rfl⟩:=rx; exact SeqAt.EqAt.bool_int a b t
  | str b=>obtain⟨t,rfl⟩:=rx; exact SeqAt.EqAt.bool_str a b t
  | _=>exact absurd (show false=true from fx) Bool.false_ne_true
 | int a =>
  obtain⟨t',rfl⟩:=ry
  cases x with
  | non=>cases rx; exact SeqAt.EqAt.int_none a t'
  | bl b=>cases rx; exact SeqAt.EqAt.int_bool a t' b
  | int b=>obtain⟨t,rfl⟩:=rx; exact SeqAt.EqAt.int_int a t' b t
  | str b=>obtain⟨t,rfl⟩:=rx; exact SeqAt.EqAt.int_str a t' b t
  | _=>exact absurd (show false=true from fx) Bool.false_ne_true
 | str a =>
  obtain⟨t',rfl⟩:=ry
  cases x with
  | non=>cases rx; exact SeqAt.EqAt.str_none a t'
  | bl b=>cases rx; exact SeqAt.EqAt.str_bool a t' b
  | int b=>obtain⟨t,rfl⟩:=rx; exact SeqAt.EqAt.str_int a t' b t
  | str b=>obtain⟨t,rfl⟩:=rx; exact SeqAt.EqAt.str_str a t' b t
  | _=>exact absurd (show false=true from fx) Bool.false_ne_true
 | _=>exact absurd (show false=true from fy) Bool.false_ne_true
noncomputable def eqU (x:V) (u:Value):Bool:=match u with
 | .none=>eqV .non x
 | .bool b=>eqV (.bl b) x
 | .int i _=>eqV (.int i) x
 | .str z _=>eqV (.str z) x
 | _=>false
theorem QhP {x y:V} {u:Value} (r:RelV y u) (f:QbP y=true):eqU x u=eqV y x:=by
 cases y with
 | non=>cases r; rfl
 | bl b=>cases r; rfl
 | int i=>obtain⟨t,rfl⟩:=r; rfl
 | str z=>obtain⟨t,rfl⟩:=r; rfl
 | _=>exact absurd (show false=true from f) Bool.false_ne_true
theorem Qdo {x:V}:∀ {xs:List V} {us:List Value},Vals xs us->xs.all QbP=true->us.any (eqU x)=xs.any fun y=>eqV y x
 | _,_,.nil,_=>rfl
 | y::xs,u::us,.cons r t,f=>by
  rw [List.all_cons,Bool.and_eq_true] at f
  rw [List.any_cons,List.any_cons,QhP r f.1,Qdo t f.2]
theorem Qcf {A:Around} {s:Shared} {x:V} {v:Value} (rx:RelV x v) (fx:QbP x=true):∀ {xs:List V} {us:List Value},Vals xs us->xs.all QbP=true->∀ u∈us,SeqAt.EqAt A s u v (eqU x u)
 | _,_,.nil,_=>fun u hu=>by cases hu
 | y::xs,u::us,.cons r t,f=>fun u' hu=>by
  rw [List.all_cons,Bool.and_eq_true] at f
  rcases List.mem_cons.mp hu with rfl | hu
  ·rw [QhP r f.1]; exact QjY r rx f.1 fx
  ·exact Qcf rx fx t f.2 u' hu
noncomputable def inV (x:V) (xs:List V):Bool:=xs.any fun y=>eqV y x
noncomputable def rIn (K:PySem.W.Frag) (neg:Bool):R2:=fun x y H Q=>∃ p xs,y=.ref p∧(SqL K H p xs∨SqT K H p xs)∧QbP x=true∧xs.all QbP=true∧Q (.bl (if neg then !inV x xs else inV x xs)) H
theorem QfA:OpR X (compareOp .In) (rIn X.K false):=by
 intro pins s σ H x y v u Q I rx ry h
 obtain⟨p,xs,rfl,hq,fx,fs,q⟩:=h
 cases ry
 rcases hq with hq | hq
 ·obtain⟨its,r,pl,hz⟩:=I.list hq
  refine SeqAt.in_listAt (eqU x) pl.isList (fun w hw=>Qcf rx fx r fs w (by simpa using hw)) ⟨.bl _,H,I,rfl,?_⟩
  rw [show its.toArray.any (eqU x)=its.any (eqU x) by simp,Qdo r fs]
  exact q
 ·obtain⟨its,r,pl,hz⟩:=I.tuple hq
  refine SeqAt.in_tupleAt (eqU x) pl (fun w hw=>Qcf rx fx r fs w (by simpa using hw)) ⟨.bl _,H,I,rfl,?_⟩
  rw [show its.toArray.any (eqU x)=its.any (eqU x) by simp,Qdo r fs]
  exact q
theorem QcR:CallR X (.builtin "len") (fun xs H Q=>∃ p ys,xs=[.ref p]∧(SqL X.K H p ys∨SqT X.K H p ys)∧Q (.int ys.length) H):=by
 intro pins s σ H xs us Q I r h
 obtain⟨p,ys,rfl,hq,q⟩:=h
 obtain⟨u,rfl,rx⟩:=Qfr r
 cases rx
 have hn:=QcL
 rcases hq with hq | hq
 ·obtain⟨its,r',pl,hz⟩:=I.list hq
  have hlen:=r'.length
  exact Calls.call_len_list pl.isList (by simp only [List.size_toArray] <;> omega) ⟨.int ys.length,H,I.tok _,⟨s.toks+1,by rw [List.size_toArray,hlen]⟩,q⟩
 ·obtain⟨its,r',pl,hz⟩:=I.tuple hq
  have hlen:=r'.length
  exact len_tuple pl (by simp only [List.size_toArray] <;> omega) ⟨.int ys.length,H,I.tok _,⟨s.toks+1,by rw [List.size_toArray,hlen]⟩,q⟩
theorem CallR.or {f:Value} {r r':List V->Hp->VK->Prop} (h:CallR X f r) (h':CallR X f r'):CallR X f (fun xs H Q=>r xs H Q∨r' xs H Q):=by
 intro pins s σ H xs us Q I rs q
 rcases q with q | q
 ·exact h pins s σ H xs us Q I rs q
 ·exact h' pins s σ H xs us Q I rs q
theorem QcS:CallR X (.type "list") (fun xs H Q=>∃ p ys,xs=[.ref p]∧(SqL X.K H p ys∨SqT X.K H p ys)∧∀ l,H l=none->Q (.ref l) (upd H l (.lst ys))):=by
 intro pins s σ H xs us Q I r h
 obtain⟨p,ys,rfl,hq,q⟩:=h
 obtain⟨u,rfl,rx⟩:=Qfr r
 cases rx
 have fin:∀(its:List Value),Vals ys its->ys.length≤sizeLine->∀(h':Heap) (c':Nat),(∀ b o',s.heap.get? b=some o'->h'.get? b=some o') ->
   h'.get? s.heap.objs.size=some { cls:=.type "list",dict:=none,data:=.seq its.toArray c',slots:=#[] }->EP X pins σ Q (.ref s.heap.objs.size) { s with heap:=h' }:=fun its r' hz h' c' kp e =>
  ⟨.ref s.heap.objs.size,_,I.laid (t':=s.toks) kp (Nat.le_refl _) (show ObjOk X.prog X.w _ h' _ (.lst ys) from ⟨hz,its,c',r',e⟩),rfl,q _ (I.hok.fresh (Nat.le_refl _))⟩
 rcases hq with hq | hq
 ·obtain⟨its,r',pl,hz⟩:=I.list hq
  have hlen:=r'.length
  obtain⟨o,ho,hc,n,hd⟩:=pl.isList
  exact call_list_seq p (.inl rfl) ho hc hd (fun h' c' kp e=>fin its r' hz h' c' kp e) (by simp only [List.size_toArray] <;> omega)
 ·obtain⟨its,r',pl,hz⟩:=I.tuple hq
  have hlen:=r'.length
  obtain⟨o,ho,hc,n,hd⟩:=pl
  exact call_list_seq p (.inr rfl) ho hc hd (fun h' c' kp e=>fin its r' hz h' c' kp e) (by simp only [List.size_toArray] <;> omega)
theorem Qcg:CallR X (.type "tuple") (fun xs H Q=>∃ p ys,xs=[.ref p]∧((SqL X.K H p ys∧∀ l,H l=none->Q (.ref l) (upd H l (.tup ys)))∨(SqT X.K H p ys∧Q (.ref p) H))):=by
 intro pins s σ H xs us Q I r h
 obtain⟨p,ys,rfl,h⟩:=h
 obtain⟨u,rfl,rx⟩:=Qfr r
 cases rx
 rcases h with⟨hq,q⟩ | ⟨hq,q⟩
 ·obtain⟨its,r',pl,hz⟩:=I.list hq
  have hlen:=r'.length
  refine call_tuple_list pl.isList (fun h' kp=>?_) (by simp only [List.size_toArray] <;> omega)
  have I1:Inv X pins σ H { s with heap:=h' }:=I.kept (t':=s.toks) kp
  have I2:Inv X pins σ (upd H h'.objs.size (.tup ys)) { s with heap:=h'.push { cls:=.type "tuple",data:=.seq its.toArray } } :=
   I1.laid (t':=s.toks) (fun b o e=>Heap.get?_push_of_some _ e) (Nat.le_refl _) (show ObjOk X.prog X.w _ _ _ (.tup ys) from ⟨hz,its,r',IsTup.new _ _⟩)
  exact⟨.ref h'.objs.size,_,I2,rfl,q _ (I1.hok.fresh (Nat.le_refl _))⟩
 ·obtain⟨its,r',pl,hz⟩:=I.tuple hq
  exact call_tuple_same pl ⟨.ref p,H,I,rfl,q⟩
noncomputable def tyV (K:PySem.W.Frag) (T:String) (x:V) (H:Hp):Prop:=match x with
 | .str _=>T = "str"
 | .int _=>T = "int"
 | .ref p=>(T = "list" ∧ ∃ xs,SqL K H p xs)∨(T = "tuple" ∧ ∃ o,K.lookup p=some o∧o.cls=.type "tuple" ∧ o.dict=none) ∨
   (T = "dict" ∧ ((∃ kvs,H p=some (.dK kvs))∨∃ kvs,H p=some (.dT kvs)))∨(T = "set" ∧ ∃ S n,H p=some (.set S n))
 | _=>False
theorem QhQ {pins:List (Addr×Obj)} {σ:St} {H:Hp} {s:Shared} {T:String} {x:V} {v:Value} (I:Inv X pins σ H s) (r:RelV x v) (ty:tyV X.K T x H) :
  s.TypeIs v T∧∀ a,v=.ref a->∃ ob,s.heap.get? a=some ob∧ob.dict=none:=by
 cases x with
 | str z =>
  obtain⟨t,rfl⟩:=r
  cases (show T = "str" from ty)
  exact⟨typeIs_str s z t,fun _ e=>nomatch e⟩
 | int i =>
  obtain⟨t,rfl⟩:=r
  cases (show T = "int" from ty)
  exact⟨typeIs_int s i t,fun _ e=>nomatch e⟩
 | ref p =>
  cases r
  rcases ty with⟨rfl,xs,hq⟩ | ⟨rfl,o,hk,hc,hd⟩ | ⟨rfl,hk⟩ | ⟨rfl,S,n,hk⟩
  ·obtain⟨its,_,pl,_⟩:=I.list hq
   refine⟨pl.isList.typeIs,fun a e=>?_⟩
   cases e
   obtain⟨o,n,e,c,hd,_⟩:=pl
   exact⟨o,e,hd⟩
  ·refine⟨⟨o,I.kIn p o hk,hc⟩,fun a e=>?_⟩
   cases e
   exact⟨o,I.kIn _ o hk,hd⟩
  ·have z:∃ o,s.heap.get? p=some o∧o.ExactDict:=by
    rcases hk with⟨kvs,hk⟩ | ⟨kvs,hk⟩
    ·obtain⟨_,_,_,_,o,_,_,e,ex,_⟩:=I.hok p _ hk
     exact⟨o,e,ex⟩
    ·obtain⟨_,_,_,_,o,_,_,e,ex,_⟩:=I.hok p _ hk
     exact⟨o,e,ex⟩
   obtain⟨o,e,ex⟩:=z
   refine⟨⟨o,e,ex.1⟩,fun a e2=>?_⟩
   cases e2
   exact⟨o,e,ex.2.1⟩
  ·obtain⟨o,_,_,_,e,ex,_⟩:=I.hok p _ hk
   refine⟨⟨o,e,ex.1⟩,fun a e2=>?_⟩
   cases e2
   exact⟨o,e,ex.2.1⟩
 | _=>exact False.elim ty
noncomputable def tBM0 (K:PySem.W.Frag) (T:String) (r:V->List V->Hp->VK->Prop) (to:TE):TE:=fun σ H Q=>to σ H fun x H1=>tyV K T x H1∧r x [] H1 Q
noncomputable def tBM (K:PySem.W.Frag) (T:String) (r:V->List V->Hp->VK->Prop) (to:TE) (t:TA):TE:=fun σ H Q=>to σ H fun x H1=>tyV K T x H1∧t σ H1 fun xs H2=>r x xs H2 Q
variable {o e:Expr} {es:List Expr} {to:TE} {t:TA} {name:Str} {apos cpos:Pos} {T id:String} {r:V->List V->Hp->VK->Prop}
theorem QjZ (pa:PlainAttrs T) (slot:Slot T name id) (hty:typeOf (.builtin id)=pure (.type "method_descriptor")) (hm:MtR X id r) (ho:PE X o to)
  (hbase:attributeBase o name X.env (eval o X.env)=eval o X.env:=by rfl) (hline:(apos.endLine == cpos.line)=true:=by rfl):PE X (.Call (.Attribute o name apos) [] [] cpos) (tBM0 X.K T r to):=by
 intro pins s σ H Q I h
 refine wpAny_Call_method0_late hbase hline (thn (ho pins s σ H _ I h) fun v s1 ⟨x,H1,I1,r1,ty,q1⟩=>?_)
 obtain⟨h1,h2⟩:=QhQ I1 r1 ty
 exact⟨T,id,pa,slot,hty,h1,h2,Calls.callWith_builtin rfl (PySem.evalArgs_none (hm pins s1 σ H1 x [] v [] Q I1 r1 .nil q1))⟩
theorem Qli (pa:PlainAttrs T) (slot:Slot T name id) (hty:typeOf (.builtin id)=pure (.type "method_descriptor")) (hm:MtR X id r) (ho:PE X o to) (ha:PA X (e::es) t)
  (hbase:attributeBase o name X.env (eval o X.env)=eval o X.env:=by rfl)
  (hfew:((backTo cpos (starEach (e::es) X.env)).all (fun x=>!x.1) && (backToKw cpos (keywordEach [] X.env)).all (fun x=>x.1.isSome)
   && decide ((e::es).length+([]:List Keyword).length+(if ([]:List Keyword).isEmpty then 0 else 1)<30))=true:=by rfl)
  (hline:(apos.endLine == cpos.line)=true:=by rfl) (hs:starEach (e::es) X.env=(false,eval e X.env)::starEach es X.env:=by rfl) (hplain:(backTo cpos (starEach es X.env)).any (·.1)=false:=by rfl) :
  PE X (.Call (.Attribute o name apos) (e::es) [] cpos) (tBM X.K T r to t):=by
 intro pins s σ H Q I h
 refine wpAny_Call_method_late hbase hfew hline rfl (thn (ho pins s σ H _ I h) fun v s1 ⟨x,H1,I1,r1,ty,q1⟩=>?_)
 obtain⟨h1,h2⟩:=QhQ I1 r1 ty
 refine⟨T,id,pa,slot,hty,h1,h2,?_⟩
 have hA:=ha cpos pins s1 σ H1 _ I1 q1
 rw [hs] at hA ⊢
 refine Calls.callWith_builtin (by show(false || (backTo cpos (starEach es X.env)).any (·.1))=false; rw [hplain] <;> rfl) (Calls.evalArgs_plain ?_)
 exact thn hA fun us s2 ⟨vs,H2,I2,r2,q2⟩=>hm pins s2 σ H2 x vs v us Q I2 r1 r2 q2
end
end L2
namespace L2
open PySem PySem.Spec PyProof.Rows
noncomputable def MtM (X:Cx) (id:String) (r:V->List V->Hp->VK->Prop):Prop :=
 ∀(pins:List (Addr×Obj)) (s:Shared) (σ:St) (H:Hp) (x:V) (xs:List V) (v:Value) (us:List Value) (Q:VK),Inv X pins σ H s->RelV x v->Vals xs us->r x xs H Q ->
  wpAny (model X.prog X.w) X.A (call (.builtin id) (v::us)) (EP X pins σ Q) X.xe s
theorem Vals.one:∀ {x:V} {us:List Value},Vals [x] us->∃ u,us=[u]∧RelV x u
 | _,_,.cons r .nil=>⟨_,rfl,r⟩
theorem Vals.two:∀ {x y:V} {us:List Value},Vals [x,y] us->∃ u v,us=[u,v]∧RelV x u∧RelV y v
 | _,_,_,.cons r (.cons q .nil)=>⟨_,_,rfl,r,q⟩
theorem Vals.zero:∀ {us:List Value},Vals [] us->us=[]
 | _,.nil=>rfl
theorem Vals.dropLast {xs:List V} {us:List Value} (h:Vals xs us):Vals xs.dropLast us.dropLast:=by
 induction h with
 | nil=>exact .nil
 | cons r t ih =>
  cases t with
  | nil=>exact .nil
  | cons q t'=>exact .cons r ih
theorem Vals.eraseIdx:∀ {xs:List V} {us:List Value} (i:Nat),Vals xs us->Vals (xs.eraseIdx i) (us.eraseIdx i)
 | _,_,_,.nil=>.nil
 | _,_,0,.cons _ t=>t
 | _,_,i+1,.cons r t=>.cons r (Vals.eraseIdx i t)
theorem Vals.reverse {xs:List V} {us:List Value} (h:Vals xs us):Vals xs.reverse us.reverse:=by
 induction h with
 | nil=>exact .nil
 | cons r t ih=>rw [List.reverse_cons,List.reverse_cons]; exact Vals.append ih (.cons r .nil)
theorem Vals.rep {xs:List V} {us:List Value} (h:Vals xs us):∀ k:Nat,Vals (List.replicate k xs).flatten (List.replicate k us).flatten
 | 0=>.nil
 | k+1=>by
  rw [List.replicate_succ,List.replicate_succ,List.flatten_cons,List.flatten_cons]
  exact Vals.append h (Vals.rep h k)
theorem QeO {α:Type} (l:List α):l.eraseIdx (l.length - 1)=l.dropLast:=by
 induction l with
 | nil=>rfl
 | cons a r ih =>
  cases r with
  | nil=>rfl
  | cons b r =>
   have e:(a::b::r).length - 1=((b::r).length - 1)+1:=by
    have h1:(a::b::r).length=r.length+2:=rfl
    have h2:(b::r).length=r.length+1:=rfl
    omega
   rw [e,List.eraseIdx_cons_succ,ih]
   all_goals rfl
theorem QcT (its:List Value):∀(k:Nat) (acc:List Value),
  List.foldl (fun x1 x2=>x1++x2) acc.toArray (List.replicate k its.toArray)=(acc++(List.replicate k its).flatten).toArray
 | 0,acc=>by simp
 | k+1,acc=>by
  have e:acc.toArray++its.toArray=(acc++its).toArray:=by simp
  have e2:(acc++its)++(List.replicate k its).flatten=acc++(List.replicate (k+1) its).flatten:=by
   rw [List.replicate_succ,List.flatten_cons,List.append_assoc]
  rw [← e2,← QcT its k (acc++its),← e,List.replicate_succ,List.foldl_cons]
section
variable {X:Cx} {pins:List (Addr×Obj)} {σ:St} {H:Hp} {s:Shared} {l b:Addr} {xs ys zs:List V}
theorem Inv.lset {its its':List Value} {n:Nat} {f:Array Value->Array Value} {t':Nat} (I:Inv X pins σ H s) (hH:H l=some (.lst xs))
  (e:s.heap.get? l=some { cls:=.type "list",data:=.seq its.toArray n }) (hf:f its.toArray=its'.toArray) (hv:Vals ys its') (hz:ys.length≤sizeLine) :
  Inv X pins σ (upd H l (.lst ys)) { s with heap:=s.heap.update l (Obj.mapSeq f),toks:=t' }:=by
 have q:=PySem.IsL.update e f
 rw [hf] at q
 refine I.write (x:=l) (e:=l) (by rw [hH]; exact trivial) (.inl rfl) (fun b' u hb hu=>(Heap.get?_update_other s.heap (Obj.mapSeq f) (Ne.symm hb)).trans hu) ⟨_,q⟩ ?_
 exact⟨hz,its',_,hv,q⟩
theorem Inv.lnew {its:List Value} {t':Nat} (I:Inv X pins σ H s) (hv:Vals ys its) (hz:ys.length≤sizeLine) :
  Inv X pins σ (upd H s.heap.objs.size (.lst ys)) { s with heap:=s.heap.push { cls:=.type "list",data:=.seq its.toArray },toks:=t' } :=
 I.laid (fun _ _ q=>Heap.get?_push_of_some _ q) (Nat.le_refl _) ⟨hz,its,0,hv,Heap.get?_push_size _ rfl⟩
theorem Inv.fresh (I:Inv X pins σ H s):H s.heap.objs.size=none:=I.hok.fresh (Nat.le_refl _)
theorem Inv.lstM (I:Inv X pins σ H s) (hH:H l=some (.lst xs)):xs.length≤sizeLine∧∃(its:List Value) (n:Nat),Vals xs its∧xs.length=its.length∧s.heap.get? l=some { cls:=.type "list",data:=.seq its.toArray n }:=by
 obtain⟨z,its,n,r,e⟩:=I.hok l _ hH
 exact⟨z,its,n,r,r.length,e⟩
theorem Qha {n:Nat} (h:n≤sizeLine):Builtin.List.listTooLong n=false:=by
 unfold Builtin.List.listTooLong
 exact decide_eq_false (by omega)
end
section
variable {X:Cx}
noncomputable def QiA:V->List V->Hp->VK->Prop:=fun x vs H Q=>∃ l xs y,x=.ref l∧vs=[y]∧H l=some (.lst xs)∧xs.length<sizeLine∧Q .non (upd H l (.lst (xs++[y])))
theorem QfB:MtM X "list.append" QiA:=by
 intro pins s σ H x vs v us Q I rx rv h
 obtain⟨l,xs,y,rfl,rfl,hH,hz,q⟩:=h
 cases rx
 obtain⟨u,rfl,ru⟩:=rv.one
 obtain⟨z,its,n,r,hl,e⟩:=I.lstM hH
 refine call_meets F.slot_list_append ⟨_,e,rfl⟩ F.entry_list_append (F.args_list_append_2 _ _) (PySem.list_append l its.toArray n u (by rw [List.size_toArray]; omega)) ⟨e,?_⟩
 refine⟨.non,_,I.lset (its':=its++[u]) hH e (by simp) (r.append (.cons ru .nil)) ?_,rfl,q⟩
 rw [List.length_append,List.length_singleton]
 omega
noncomputable def rPop:V->List V->Hp->VK->Prop:=fun x vs H Q=>∃ l xs y,x=.ref l∧vs=[]∧H l=some (.lst xs)∧xs[xs.length - 1]?=some y∧Q y (upd H l (.lst xs.dropLast))
theorem Qj0:MtM X "list.pop" rPop:=by
 intro pins s σ H x vs v us Q I rx rv h
 obtain⟨l,xs,y,rfl,rfl,hH,hy,q⟩:=h
 cases rx
 have hus:=rv.zero
 subst hus
 obtain⟨z,its,n,r,hl,e⟩:=I.lstM hH
 obtain⟨u,hu,ru⟩:=r.get hy
 have hy':its.toArray[its.toArray.size - 1]?=some u:=by
  show its.toArray[its.length - 1]?=some u
  rw [← Array.getElem?_toList,← hl]
  exact hu
 refine call_meets F.slot_list_pop ⟨_,e,rfl⟩ F.entry_list_pop (F.args_list_pop_1 _) (MeetsSeq.list_pop_last l its.toArray n u hy' (by rw [List.size_toArray]; omega)) ⟨e,?_⟩
 refine⟨y,_,I.lset (its':=its.dropLast) hH e ?_ r.dropLast ?_,ru,q⟩
 ·show its.toArray.eraseIdxIfInBounds (its.toArray.size - 1)=its.dropLast.toArray
  rw [List.size_toArray,List.eraseIdxIfInBounds_toArray,QeO]
 ·rw [List.length_dropLast]
  omega
noncomputable def rCat:R2:=fun x y H Q=>∃ l b xs zs,x=.ref l∧y=.ref b∧H l=some (.lst xs)∧H b=some (.lst zs)∧xs.length+zs.length≤sizeLine∧∀ p,H p=none->Q (.ref p) (upd H p (.lst (xs++zs)))
theorem Qj1:OpR X (binaryOp .Add) rCat:=by
 intro pins s σ H x y v u Q I rx ry h
 obtain⟨l,b,xs,zs,rfl,rfl,hH,hB,hz,q⟩:=h
 cases rx
 cases ry
 obtain⟨z,its,n,r,hl,e⟩:=I.lstM hH
 obtain⟨z2,its2,n2,r2,hl2,e2⟩:=I.lstM hB
 refine PySem.P.add_list e e2 ?_ (by rw [List.size_toArray,List.size_toArray]; omega)
 have ea:its.toArray++its2.toArray=(its++its2).toArray:=by simp
 rw [ea]
 exact⟨.ref _,_,I.lnew (t':=s.toks) (r.append r2) (by rw [List.length_append]; omega),rfl,q _ I.fresh⟩
noncomputable def rRep:R2:=fun x y H Q=>∃ l k xs,x=.ref l∧y=.int k∧H l=some (.lst xs) ∧ -(2 ^ 63)≤k∧k<2 ^ 63∧xs.length*k.toNat≤sizeLine ∧
 ∀ p,H p=none->Q (.ref p) (upd H p (.lst (List.replicate k.toNat xs).flatten))
theorem QiB {α:Type} (xs:List α) (k:Nat):(List.replicate k xs).flatten.length=k*xs.length:=by
 induction k with
 | zero=>simp
 | succ k ih=>rw [List.replicate_succ,List.flatten_cons,List.length_append,ih,Nat.succ_mul,Nat.add_comm]
theorem Qj2:OpR X (binaryOp .Mult) rRep:=by
 intro pins s σ H x y v u Q I rx ry h
 obtain⟨l,k,xs,rfl,rfl,hH,h1,h2,hz,q⟩:=h
 cases rx
 obtain⟨t,rfl⟩:=ry
 obtain⟨z,its,n,r,hl,e⟩:=I.lstM hH
 have hlen:its.toArray.size*k.toNat≤sizeLine:=by rw [List.size_toArray,← hl]; exact hz
 have hcap:¬ its.toArray.size*k.toNat > (2 ^ 63 - 1) / 8:=by
  have:(sizeLine:Nat)≤(2 ^ 63 - 1) / 8:=by decide
  omega
 have hfit:¬ (!Builtin.List.listFitsIndex k)=true:=by
  rw [fitsIndex_both h1 h2]
  exact Bool.false_ne_true
 have hlong:¬ Builtin.List.listTooLong (its.toArray.size*k.toNat)=true:=by
  rw [Qha hlen]
  exact Bool.false_ne_true
 have hnew:List.foldl (fun x1 x2=>x1++x2) #[] (List.replicate (if its.toArray.isEmpty=true then 0 else k.toNat) its.toArray)=(List.replicate k.toNat its).flatten.toArray:=by
  have f0:∀ m:Nat,List.foldl (fun x1 x2=>x1++x2) #[] (List.replicate m its.toArray)=(List.replicate m its).flatten.toArray:=fun m=>by
   have:=QcT its m []
   rw [List.nil_append] at this
   exact this
  rw [f0]
  cases its with
  | nil=>simp
  | cons a r'=>rw [if_neg (by simp)]
 refine wpAny_binaryOp_repeat_ref (T:="list") (U:="int") (by decide) ⟨_,e,rfl⟩ (fun s'=>typeIs_int s' k t) noFill_list_mul F.fills_int_mul F.slot_int_rmul repeat_list F.slot_int_index.lookup
  (call_meets F.slot_int_rmul (typeIs_int s k t) F.entry_int_rmul (F.args_int_rmul_2 _ _) (int___rmul___int_list k t l its.toArray n)
   ⟨e,rfl,⟨_,e,rfl⟩,call_meets F.slot_list_mul ⟨_,e,rfl⟩ F.entry_list_mul (F.args_list_mul_2 _ _) (AutoListH.list___mul___list_int_3 l its.toArray n k t hfit hcap hlong) ⟨e,?_⟩⟩)
 rw [hnew]
 exact⟨.ref _,_,I.lnew (t':=s.toks) (r.rep k.toNat) (by rw [QiB,Nat.mul_comm]; exact hz),rfl,q _ I.fresh⟩
end
section
variable {prog:Program} {w:World} {A:Around} {E:Value->Shared->Prop} {s:Shared}
end
section
variable {X:Cx}
end
end L2
namespace Att
open PySem PySem.W PySem.Calls PyProof.Rows
theorem Qbb {P:Params} {h:Heap}:∀(ns:List Int) (vs:List Value),WellAll P h vs (ns.map WData.int)->IntsAre vs ns:=by
 intro ns
 induction ns with
 | nil =>
  intro vs w
  rw [List.map_nil] at w
  cases w
  exact .nil
 | cons n ns ih =>
  intro vs w
  rw [List.map_cons] at w
  cases w with
  | cons a b =>
   cases a
   exact .cons _ _ (ih _ b)
theorem QfC {l:OpenLaw} {n:Nat} (hn:l.most=some n) {P:Params} {h:Heap} {args:List WData} {vals:List Value}
  (hpre:l.row.toRowW.claim.pre args=true) (hwl:WellAll P h vals args) :
  ∃ a vs ns,vals=[Value.ref a]∧args=[WData.list (ns.map WData.int)]∧h.get? a=some { cls:=.type "list",data:=.seq vs.toArray }∧IntsAre vs ns∧ns.length≤n:=by
 have hsh:WShape.hasAll [] args [.list .int]=true:=(pre_splitW hpre).1
 have hc:l.pre.holds [] { args:=args }=true:=(pre_splitW hpre).2
 obtain⟨d,r,rfl,h1,h2⟩:=hasAllW_cons hsh
 obtain rfl:=hasAllW_nil h2
 obtain⟨xs,rfl,h3⟩:=hasW_list h1
 obtain⟨ns,rfl⟩:=items_int h3
 have hlen:ns.length≤n:=by
  unfold OpenLaw.pre at hc
  have h4:(WTm.not (.lt (.lit (.int (n:Int))) (.len (.arg 0)))).holds [] { args:=[.list (ns.map .int)] }=true:=by
   have h4:=(holds_andW hc).1
   rw [hn] at h4
   exact h4
  have h5:=condW_of h4 (w_not (w_lt w_lit (w_len_list (w_arg rfl))))
  rw [List.length_map] at h5
  refine Nat.le_of_not_lt fun q=>?_
  have q':(n:Int)<((ns.length:Nat):Int):=by omega
  first
   | (rw [decide_eq_true q'] at h5; exact absurd h5 (by decide))
   | (simp at h5; omega)
 cases hwl with
 | cons w1 w2 =>
  cases w2
  cases w1 with
  | list ho hall=>exact⟨_,_,ns,rfl,rfl,ho,Qbb ns _ hall,hlen⟩
theorem QfD (l:OpenLaw) (args:List WData):l.row.toRowW.claim.post args (.bool true) args=true :=
 postW_of (r:=l.row.toRowW) (X:=(true == true))
  (show WShape.has [] (.bool true) .bool=true by first | rfl | decide | simp [WShape.has,WShape.arms,WShape.armsAll])
  (show(WTm.eq .res (.lit (.bool true))).value [] { args:=args,res:=some (.bool true),after:=args }=some (.bool (true == true)) from w_eq_bool (w_res rfl) w_lit) rfl
theorem attach_call {l:OpenLaw} {n:Nat} {q:Program} {loose:List Str} {XP:(Str->Option Value)->Heap->Prop} {YP:World->Heap->Prop} {d:DefRec}
  (hn:l.most=some n) (hdf:d.params.defaults=[])
  (call:∀(w:World) (s₀ s₁:Shared) (mg mb:Str->Option Value) (fa:Addr) (o:Obj) (pm cd doc:Value) (a:Addr) (vs:List Value) (ns:List Int),
   Ground q loose [] XP w s₀ mg mb s₁.heap->YP w s₁.heap ->
   s₁.heap.get? fa=some o->o.data=.func (docDef d.name d.params d.body d.scope pm cd doc)->s₁.heap.CodeRec cd d.name->mg d.name=some (.ref fa) ->
   s₁.heap.get? a=some { cls:=.type "list",data:=.seq vs.toArray }->IntsAre vs ns->ns.length≤n->s₁.gens = #[] ->
   codeAny (model l.prog w) callerA (.call (.ref fa) ⟨[.ref a],[]⟩) (fun r s'=>r=.ok (.ret (.bool true))∧OldK s₁.heap s'.heap∧s'.os=s₁.os∧AllBare s'.gens) s₁) :
  WalkO q loose XP YP l.row.toRowW d [] (fun f vs=>PySem.call f vs):=by
 intro w s₀ s₁ mg mb G Y fa o pm cd doc dV kV ho hd hcd hD hmg hg args vals as hpre hlay hrd hwl hlo
 obtain rfl:dV=.none:=Dflts.none hD hdf
 obtain rfl:kV=.none:=Dflts.noKw hD
 obtain⟨a,vs,ns,rfl,rfl,hobj,hints,hlen⟩:=QfC hn hpre hwl
 refine enter_call (codeAny_mono (call w s₀ s₁ mg mb fa o pm cd doc a vs ns G Y ho (fd_plain hd) hcd hmg hobj hints hlen hg) fun r s' hq=>?_)
 obtain⟨rfl,h2,h3,h4⟩:=hq
 exact⟨.inl ⟨.bool true,.bool true,[],rfl,fun _=>rfl,.bool true,QfD l _,fun _=>⟨List.Pairwise.nil,fun _ hm=>(nomatch hm)⟩⟩,h2,h3,h4⟩
section
variable {prog:Program} {w:World} {A:Around} {E:Value->Shared->Prop} {s:Shared} {K:Frag}
end
end Att
namespace L2
open PySem PySem.Spec PyProof.Rows
theorem QcU:∀ {vs:List Value} {ns:List Int},IntsAre vs ns->Vals (ns.map V.int) vs
 | _,_,.nil=>.nil
 | _,_,.cons n t h=>.cons ⟨t,rfl⟩ (QcU h)
noncomputable def Only (H:Hp):Prop:=∀ b,H b=none∨∃ o xs,H b=some (.frz o (.lst xs))
theorem Qhb {P:Program} {w:World} {K:PySem.W.Frag} {mg mb:Str->Option Value} {CX:CXT} {k:Nat} {fa a:Addr} {fd:FuncData} {x:Str} {sp:Sp} {s₁:Shared} {vs:List Value} {ns:List Int}
  (KX:K.In s₁.heap) (hns:s₁.heap.Ns mainGlobals mg) (hb:s₁.heap.Ns builtinsNs mb) (hbb:∀ x:Str,x ≠ "__name__" -> mb x=bootBuiltins x) (hlim:s₁.heap.NoLimit) (hg:s₁.gens = #[])
  (ha:s₁.heap.get? a=some { cls:=.type "list",data:=.seq vs.toArray }) (hi:IntsAre vs ns) (hl:ns.length≤sizeLine) (hr:Room k callerA)
  (F:∀ base:Heap,K.In base->base.Ns mainGlobals mg->FnOk P w K mg base CX k fa fd [x] sp) (hbind:∀(s:Shared) (u:Value),BindsTo s fd ⟨[u],[]⟩ [(x,u)])
  (hsp:∀ H:Hp,Only H->SqL K H a (ns.map V.int)->sp [.ref a] H (fun v _=>v=.bl true) fun _ _ _=>False)
  (hCX:∀ H e s',CX [] H s₁ (fun _ _ _=>False) e s'->False) :
  codeAny (model P w) callerA (.call (.ref fa) ⟨[.ref a],[]⟩) (fun r s'=>r=.ok (.ret (.bool true))∧OldK s₁.heap s'.heap∧s'.os=s₁.os∧AllBare s'.gens) s₁:=by
 have rv:=QcU hi
 have lenV:=hi.length
 -- from an abstract heap in which nothing but the script may be tracked
 have core:∀ H:Hp,Only H->SqL K H a (ns.map V.int)->HOk P w H s₁.heap->(∀ b,H b≠none->b=a)->(H a≠none->K.lookup a=none) ->
   codeAny (model P w) callerA (.call (.ref fa) ⟨[.ref a],[]⟩) (fun r s'=>r=.ok (.ret (.bool true))∧OldK s₁.heap s'.heap∧s'.os=s₁.os∧AllBare s'.gens) s₁:=by
  intro H hO hS hok hA hK
  have base_of:∀ {b:Addr} {o:Obj},s₁.heap.get? b=some o->H b=none->(hidT s₁.heap H).get? b=some o:=fun e n=>QgX e n
  have noA:∀ {b:Addr} {o:Obj} {es:Array DictEntry} {ep:Nat},s₁.heap.get? b=some o->o.data=.dict es ep->H b=none:=fun {b o es ep} e d=>by
   cases q:H b with
   | none=>rfl
   | some u =>
    have e':b=a:=hA b (by rw [q]; simp)
    subst e'
    rw [ha] at e; cases e
    have d':Data.seq vs.toArray _=Data.dict es ep:=d
    cases d'
  have nsK:∀ {b:Addr} {m:Str->Option Value},s₁.heap.Ns b m->(hidT s₁.heap H).Ns b m:=fun {b m} ⟨o,es,ep,e,d,r⟩=>⟨o,es,ep,base_of e (noA e d),d,r⟩
  have hKb:K.In (hidT s₁.heap H):=fun b o e=>base_of (KX b o e) (by
   cases q:H b with
   | none=>rfl
   | some u =>
    have e':b=a:=hA b (by rw [q]; simp)
    subst e'
    rw [hK (by rw [q]; simp)] at e; cases e)
  have hM:Mod K mg (hidT s₁.heap H):=⟨hKb,nsK hns,⟨mb,nsK hb,hbb⟩,let ⟨mc,h1,h2⟩:=hlim; ⟨mc,nsK h1,h2⟩⟩
  have e0:Env0 P w K mg (hidT s₁.heap H) callerA [] s₁ H:=⟨rfl,hM,fun b o e=>Qie e,Nat.le_of_eq (Qfk _ _),trivial,fun b hb=>absurd (show b∈([]:List Addr) from hb) (by simp),hok,.of_eq hg⟩
  refine codeAny_mono ((F _ hKb (nsK hns)).run callerA [] s₁ H ⟨[.ref a],[]⟩ [.ref a] [.ref a] _ _ hr e0 (hbind s₁ (.ref a)) (.cons rfl .nil) (hsp H hO hS)) fun r s' h=>?_
  cases r with
  | error e=>exact(hCX H e s' h).elim
  | ok fl =>
   cases fl with
   | next=>exact False.elim h
   | brk=>exact False.elim h
   | cont=>exact False.elim h
   | ret u =>
    obtain⟨v,H',os,bare,un,hok',r',q⟩:=h
    have q':v=.bl true:=q
    subst q'
    obtain rfl:u=Value.bool true:=r'
    refine⟨rfl,OldK.of_keep fun b o e=>?_,os,bare⟩
    cases q:H b with
    | none=>exact un.keep b o e q (by intro z; exact absurd (show b∈([]:List Addr) from z) (by simp)) (by simp)
    | some u =>
     rcases hO b with z | ⟨ob,xs,z⟩
     ·rw [q] at z; cases z
     ·have z2:=un.frzs b ob _ z
      obtain⟨e1,_⟩:=hok b _ z
      obtain⟨e2,_⟩:=hok' b _ z2
      rw [e] at e1; cases e1
      exact e2
 cases hk:K.lookup a with
 | some o =>
  -- the script is one of the module's own objects
  have e:=KX a o hk
  rw [ha] at e
  cases e
  refine core (fun _=>none) (fun _=>.inl rfl) (.inr ⟨_,vs.toArray,_,hk,rfl,rfl,rfl,by rw [List.size_toArray,lenV]; exact hl,by simpa using rv⟩) (fun b u z=>by have z':(none:Option HO)=some u:=z; cases z') (fun b z=>absurd rfl z) fun z=>absurd rfl z
 | none =>
  refine core (fun b=>if b=a then some (.frz { cls:=.type "list",data:=.seq vs.toArray } (.lst (ns.map V.int))) else none) (fun b=>?_) (.inl (.inr ⟨{ cls:=.type "list",data:=.seq vs.toArray },if_pos rfl⟩)) (fun b u z=>?_) (fun b z=>?_) fun _=>hk
  ·by_cases hb:b=a
   ·exact .inr ⟨_,_,if_pos hb⟩
   ·exact .inl (if_neg hb)
  ·by_cases hb:b=a
   ·have z':=(if_pos hb).symm.trans z
    cases z'
    subst hb
    exact⟨ha,by rw [List.length_map]; exact hl,vs,_,rv,ha⟩
   ·have z':=(if_neg hb).symm.trans z
    cases z'
  ·by_cases hb:b=a
   ·exact hb
   ·exact absurd (if_neg hb) z
end L2
namespace L2
open PySem PySem.Spec PyProof.Rows
theorem walk_of {l:PySem.W.OpenLaw} {n k:Nat} {q:Program} {loose:List Str} {XP:(Str->Option Value)->Heap->Prop} {YP:World->Heap->Prop} {d:DefRec} {K:Params->PySem.W.Frag} {CX:World->CXT} {sp:World->Sp} {x:Str}
  (hn:l.most=some n) (hn2:n≤sizeLine) (hdf:d.params.defaults=[]) (hr:Room k callerA)
  (hY:∀(w:World) (h:Heap),YP w h->(K w.params).In h)
  (F:∀(w:World) (mg:Str->Option Value) (fa:Addr) (h:Heap),(K w.params).In h->h.Ns mainGlobals mg->mg d.name=some (.ref fa) ->
   ∃ fd:FuncData,(∀(s:Shared) (u:Value),BindsTo s fd ⟨[u],[]⟩ [(x,u)]) ∧
    ∀ base:Heap,(K w.params).In base->base.Ns mainGlobals mg->FnOk l.prog w (K w.params) mg base (CX w) k fa fd [x] (sp w))
  (hsp:∀(w:World) (H:Hp) (a:Addr) (ns:List Int),ns.length≤n->Only H->SqL (K w.params) H a (ns.map V.int)->sp w [.ref a] H (fun v _=>v=.bl true) fun _ _ _=>False)
  (hCX:∀(w:World) (H:Hp) (s:Shared) (e:Value) (s':Shared),CX w [] H s (fun _ _ _=>False) e s'->False) :
  PySem.W.WalkO q loose XP YP l.row.toRowW d [] (fun f vs=>PySem.call f vs):=by
 refine Att.attach_call hn hdf fun w s₀ s₁ mg mb fa o pm cd doc a vs ns G Y ho hd hcd hmg hobj hints hlen hg=>?_
 have KX:=hY w _ Y
 obtain⟨fd,hb,hF⟩:=F w mg fa _ KX G.T.g hmg
 exact Qhb KX G.T.g G.T.b G.T.builtins G.T.nolimit hg hobj hints (Nat.le_trans hlen hn2) hr hF hb (fun H hO hS=>hsp w H a ns hlen hO hS) fun H e s'=>hCX w H s₁ e s'
end L2
namespace L2
open PySem PySem.Spec PyProof.Rows
noncomputable def Qbc (s:Stmt) (j:Nat):Stmt:=match s with
 | .ClassDef _ _ _ body _ _ _ _ _ _ _=>body.getD j (.Pass ⟨0,0,0,0⟩)
 | _=>.Pass ⟨0,0,0,0⟩
noncomputable def Qr (s:Stmt):Arguments:=match s with
 | .FunctionDef _ a _ _ _ _ _ _ _ _=>a
 | _=>{ posonlyargs:=[],args:=[],vararg:=none,kwonlyargs:=[],kw_defaults:=[],kwarg:=none,defaults:=[] }
noncomputable def Qq (s:Stmt):List Stmt:=match s with
 | .FunctionDef _ _ b _ _ _ _ _ _ _=>b
 | _=>[]
noncomputable def Qd (s:Stmt):Scope:=match s with
 | .FunctionDef _ _ _ _ _ _ sc _ _ _=>sc
 | _=>{ kind:=.function,names:=[],isGenerator:=false,isCoroutine:=false }
noncomputable abbrev CX0:CXT:=fun _ _ _ _ _ _=>False
structure Fun (K:PySem.W.Frag) (x qual:Str) (st:Stmt) (f:Addr) (fd:FuncData):Prop where
 ex:∃(oc:Value) (od:Option Addr) (kV doc pm:Value) (an:Option Addr) (cdv ct:Value) (osl:Array (Option Value)),
  fd=PySem.W.fnOf x qual (Qr st) (Qq st) (Qd st) .none kV doc pm an cdv ct∧K.lookup f=some ⟨oc,od,.func fd,osl⟩∧PySem.W.codeIn K cdv qual=true
 kp:PySem.W.keepIn K (.ref f)=true
section
variable {P:Program} {w:World} {K:PySem.W.Frag} {mg:Str->Option Value} {base:Heap}
theorem Fun.ok {x qual:Str} {st:Stmt} {f:Addr} {fd:FuncData} {N ps:List Str} {k:Nat} {sp:Sp} (F:Fun K x qual st f fd) (S:FnScope N ps (Qd st)) (len:∀ vs H Q E,sp vs H Q E->vs.length=ps.length)
  (hbody:∀(cdv:Value) (A:Around) (outer:List Env) (s:Shared) (H:Hp) (vs:List V) (Q:VK) (E:XK),Room k (A.deeper (envOfC qual (Qd st) s.heap.objs.size f cdv))->sp vs H Q E ->
   ∃ t,PSs (cxOf CX0 P w K mg base N qual (Qd st) f cdv A outer s H E).nox (Qq st) t∧t { nx:=fun _ H'=>Q .non H',rt:=Q } (start N vs) H):FnOk P w K mg base CX0 (k+1) f fd ps sp:=by
 obtain⟨oc,od,kV,doc,pm,an,cdv,ct,osl,rfl,lk,hcd⟩:=F.ex
 refine QjT lk hcd S len fun A outer s H vs Q E hr hsp=>?_
 obtain⟨t,h,q⟩:=hbody cdv A outer s H vs Q E hr hsp
 exact⟨t,h.nox,q⟩
theorem Fun.binds {x qual:Str} {st:Stmt} {f:Addr} {fd:FuncData} {ps:List Str} (F:Fun K x qual st f fd)
  (h:∀(kV doc pm:Value) (an:Option Addr) (cdv ct:Value) (us:List Value),us.length=ps.length->bindArgs (PySem.W.fnOf x qual (Qr st) (Qq st) (Qd st) .none kV doc pm an cdv ct) ⟨us,[]⟩=pure (ps.zip us)):Binds K fd ps []:=by
 obtain⟨oc,od,kV,doc,pm,an,cdv,ct,osl,rfl,lk,hcd⟩:=F.ex
 exact .all (h kV doc pm an cdv ct)
theorem QC {x qual:Str} {st:Stmt} {f:Addr} {oc:Value} {od an:Option Addr} {osl:Array (Option Value)} {kV doc pm cdv ct:Value} (l:K.lookup f=some ⟨oc,od,.func (PySem.W.fnOf x qual (Qr st) (Qq st) (Qd st) .none kV doc pm an cdv ct),osl⟩)
  (c:PySem.W.codeIn K cdv qual=true) (k:PySem.W.keepIn K (.ref f)=true):Fun K x qual st f (PySem.W.fnOf x qual (Qr st) (Qq st) (Qd st) .none kV doc pm an cdv ct):=⟨⟨oc,od,kV,doc,pm,an,cdv,ct,osl,rfl,l,c⟩,k⟩
end
section
variable {X:Cx}
end
noncomputable def Same (H H':Hp):Prop:=∀ b o,H b=some o->H' b=some o
theorem Same.refl (H:Hp):Same H H:=fun _ _ h=>h
theorem Same.trans {H H1 H2:Hp} (a:Same H H1) (b:Same H1 H2):Same H H2:=fun c o h=>b c o (a c o h)
theorem Same.free {H H':Hp} (e:Same H H') {l:Addr} (h:H' l=Option.none):H l=Option.none:=by
 cases q:H l with
 | none=>rfl
 | some o =>
  rw [e l o q] at h
  cases h
theorem Same.seq {K:PySem.W.Frag} {H H':Hp} {a:Addr} {xs:List V} (e:Same H H') (h:SqL K H a xs):SqL K H' a xs:=by
 rcases h with(h | ⟨o,h⟩) | h
 ·exact .inl (.inl (e _ _ h))
 ·exact .inl (.inr ⟨o,e _ _ h⟩)
 ·exact .inr h
end L2
set_option maxHeartbeats 4000000
section
namespace L3
open PySem
noncomputable abbrev Xc:=Nat×Option Nat
inductive D where
 | non | bl (b:Bool) | int (i:Int) | str (s:Str) | ref (n:Nat) | tup (ds:List D) | fl (ds:List D)
inductive GO where
 | lst (ds:List D) | ins (c:Nat) (fs:List (Str×D)) | dct (kvs:List (Sum Int Str×D)) | exc (x:Xc)
noncomputable abbrev G:=List GO
noncomputable abbrev S3:=List (Option D)
inductive Res (α:Type) where
 | ok (a:α) (g:G) | raise (x:Xc) (g:G) | stuck
noncomputable def Res.bind {α β:Type}:Res α->(α->G->Res β)->Res β
 | .ok a g,k=>k a g
 | .raise e g,_=>.raise e g
 | .stuck,_=>.stuck
inductive Out where
 | nx (σ:S3) (g:G) | rt (d:D) (g:G) | bk (σ:S3) (g:G) | ct (σ:S3) (g:G) | raise (x:Xc) (σ:S3) (g:G) | stuck
noncomputable abbrev ME:=S3->G->Res D
noncomputable abbrev MT:=S3->G->Res Bool
noncomputable abbrev MA:=S3->G->Res (List D)
noncomputable abbrev MS:=S3->G->Out
noncomputable abbrev MF:=List D->G->Res D
theorem Res.bind_ok {α β:Type} (a:α) (g:G) (k:α->G->Res β):(Res.ok a g).bind k=k a g:=rfl
noncomputable def SZ:Nat:=1000000
noncomputable def mVar (i:Nat):ME:=fun σ g=>match σ[i]? with
 | some (some d)=>.ok d g
 | _=>.stuck
noncomputable def mLit (d:D):ME:=fun _ g=>.ok d g
noncomputable def mOp1 (f:D->G->Res D) (a:ME):ME:=fun σ g=>(a σ g).bind f
noncomputable def mOp2 (f:D->D->G->Res D) (a b:ME):ME:=fun σ g=>(a σ g).bind fun x g1=>(b σ g1).bind fun y g2=>f x y g2
noncomputable def mNil:MA:=fun _ g=>.ok [] g
noncomputable def Qb (a:ME) (r:MA):MA:=fun σ g=>(a σ g).bind fun x g1=>(r σ g1).bind fun xs g2=>.ok (x::xs) g2
noncomputable def mOpA (f:List D->G->Res D) (a:MA):ME:=fun σ g=>(a σ g).bind f
noncomputable def Qh (a:ME):MT:=fun σ g=>(a σ g).bind fun d g1=>match d with
 | .bl b=>.ok b g1
 | _=>.stuck
noncomputable def Je (a:MT):MT:=fun σ g=>(a σ g).bind fun b g1=>.ok (!b) g1
noncomputable def JO (a b:MT):MT:=fun σ g=>(a σ g).bind fun c g1=>if c=true then b σ g1 else .ok false g1
noncomputable def mOrT (a b:MT):MT:=fun σ g=>(a σ g).bind fun c g1=>if c=true then .ok true g1 else b σ g1
noncomputable def mNot (a:ME):ME:=fun σ g=>(a σ g).bind fun d g1=>match d with
 | .bl b=>.ok (.bl (!b)) g1
 | _=>.stuck
noncomputable def mAnd (a b:ME):ME:=fun σ g=>(a σ g).bind fun d g1=>match d with
 | .bl c=>if c=true then b σ g1 else .ok (.bl false) g1
 | _=>.stuck
noncomputable def mIfE (c:MT) (a b:ME):ME:=fun σ g=>(c σ g).bind fun t g1=>if t=true then a σ g1 else b σ g1
noncomputable def Qb1 (f f':D->D->G->Res D) (a b c:ME):ME:=fun σ g=>(a σ g).bind fun x g1=>(b σ g1).bind fun y g2=>(f x y g2).bind fun z g3=>match z with
 | .bl true=>(c σ g3).bind fun w g4=>f' y w g4
 | .bl false=>.ok (.bl false) g3
 | _=>.stuck
noncomputable def Qy:MS:=fun σ g=>.nx σ g
noncomputable def mSeq (a b:MS):MS:=fun σ g=>match a σ g with
 | .nx σ' g'=>b σ' g'
 | o=>o
noncomputable def ZE (a:ME):MS:=fun σ g=>match a σ g with
 | .ok _ g'=>.nx σ g'
 | .raise e g'=>.raise e σ g'
 | .stuck=>.stuck
noncomputable def mRet (a:ME):MS:=fun σ g=>match a σ g with
 | .ok d g'=>.rt d g'
 | .raise e g'=>.raise e σ g'
 | .stuck=>.stuck
noncomputable def QiC:MS:=fun _ g=>.rt .non g
noncomputable def mIf (c:MT) (a b:MS):MS:=fun σ g=>match c σ g with
 | .ok t g'=>if t=true then a σ g' else b σ g'
 | .raise e g'=>.raise e σ g'
 | .stuck=>.stuck
noncomputable def Yt:MS:=fun _ _=>.stuck
noncomputable def QdZ (c:Nat) (a:MA):MS:=fun σ g=>match a σ g with
 | .ok ds g'=>if ds.length≤SZ then .raise (c,none) σ g' else .stuck
 | .raise e g'=>.raise e σ g'
 | .stuck=>.stuck
structure MH where
 cs:List Nat
 no:List Nat
 nm:Option Nat
 suite:MS
noncomputable def Qj3 (i:Nat):Out->Out
 | .nx σ g=>.nx (σ.set i none) g
 | .rt d g=>.rt d g
 | _=>.stuck
noncomputable def runH:List MH->Xc->S3->G->Out
 | [],x,σ,g=>.raise x σ g
 | h::r,x,σ,g=>if x.1∈h.cs then (match h.nm with
  | none=>(match h.suite σ g with
   | .nx σ' g'=>.nx σ' g'
   | .rt d g'=>.rt d g'
   | _=>.stuck)
  | some i=>Qj3 i (h.suite (σ.set i (some (.ref g.length))) (g++[.exc x]))) else if x.1∈h.no then runH r x σ g else .stuck
noncomputable def mTry (b:MS) (hs:List MH):MS:=fun σ g=>match b σ g with
 | .raise x σ' g'=>runH hs x σ' g'
 | o=>o
noncomputable abbrev MG:=D->S3->Option S3
noncomputable def gSet (i:Nat):MG:=fun d σ=>some (σ.set i (some d))
noncomputable def Qch:List MG->List D->S3->Option S3
 | [],[],σ=>some σ
 | t::ts,d::ds,σ=>(t d σ).bind fun σ'=>Qch ts ds σ'
 | _,_,_=>none
noncomputable def YJ (ts:List MG):MG:=fun d σ=>match d with
 | .tup ds=>Qch ts ds σ
 | _=>none
noncomputable def mAsg (t:MG) (a:ME):MS:=fun σ g=>match a σ g with
 | .ok d g'=>(match t d σ with
  | some σ'=>.nx σ' g'
  | none=>.stuck)
 | .raise e g'=>.raise e σ g'
 | .stuck=>.stuck
structure Src where
 at':G->Nat->Option (Option D)
 top:Nat
noncomputable abbrev MI:=S3->G->Res Src
noncomputable def forL (src:Src) (t:MG) (body:MS):Nat->Nat->S3->G->Out
 | 0,_,_,_=>.stuck
 | f+1,i,σ,g=>match src.at' g i with
  | some (some d)=>(match t d σ with
   | some σ1=>(match body σ1 g with
    | .nx σ2 g2=>forL src t body f (i+1) σ2 g2
    | .ct σ2 g2=>forL src t body f (i+1) σ2 g2
    | .bk σ2 g2=>.nx σ2 g2
    | o=>o)
   | none=>.stuck)
  | some none=>.nx σ g
  | none=>.stuck
noncomputable def mFor (it:MI) (t:MG) (body:MS):MS:=fun σ g=>match it σ g with
 | .ok src g'=>forL src t body (src.top+1) 0 σ g'
 | .raise e g'=>.raise e σ g'
 | .stuck=>.stuck
noncomputable def Zq (c:MT) (body:MS):Nat->S3->G->Out
 | 0,_,_=>.stuck
 | f+1,σ,g=>match c σ g with
  | .ok true g1=>(match body σ g1 with
   | .nx σ2 g2=>Zq c body f σ2 g2
   | .ct σ2 g2=>Zq c body f σ2 g2
   | .bk σ2 g2=>.nx σ2 g2
   | o=>o)
  | .ok false g1=>.nx σ g1
  | .raise e g1=>.raise e σ g1
  | .stuck=>.stuck
open Classical in
noncomputable def QaB (c:MT) (body:MS):MS:=fun σ g=>if h:∃ f,Zq c body f σ g≠.stuck then Zq c body h.choose σ g else .stuck
noncomputable def Ja (src:Src) (t:MG) (c:MT) (e:ME):Nat->Nat->S3->G->List D->Res (List D)
 | 0,_,_,_,_=>.stuck
 | f+1,i,σ,g,acc=>match src.at' g i with
  | some (some d)=>(match t d σ with
   | some σ1=>(match c σ1 g with
    | .ok b g1=>if b=true then (match e σ1 g1 with
     | .ok y g2=>Ja src t c e f (i+1) σ1 g2 (acc++[y])
     | _=>.stuck) else Ja src t c e f (i+1) σ1 g1 acc
    | _=>.stuck)
   | none=>.stuck)
  | some none=>.ok acc g
  | none=>.stuck
noncomputable def capt (n:Nat) (cap:List Nat) (σ:S3):S3:=List.replicate n none++cap.map fun i=>(σ[i]?).getD none
noncomputable def newL (ds:List D) (g:G):Res D:=if ds.length≤SZ then .ok (.ref g.length) (g++[.lst ds]) else .stuck
noncomputable def pTup (xs:List D) (g:G):Res D:=if xs.length≤SZ then .ok (.tup xs) g else .stuck
noncomputable def JP (it:MI) (n:Nat) (cap:List Nat) (t:MG) (c:MT) (e:ME):ME:=fun σ g=>match it σ g with
 | .ok src g1=>if src.top≤SZ then (match Ja src t c e (src.top+1) 0 (capt n cap σ) g1 [] with
  | .ok ds g2=>.ok (.ref g2.length) (g2++[.lst ds])
  | _=>.stuck) else .stuck
 | _=>.stuck
noncomputable def Jb:MT:=fun _ g=>.ok true g
noncomputable def mDef (k n:Nat) (body:MS):MF:=fun ds g=>if ds.length=k then (match body (ds.map some++List.replicate n none) g with
 | .nx _ g'=>.ok .non g'
 | .rt d g'=>.ok d g'
 | .raise e _ g'=>.raise e g'
 | _=>.stuck) else .stuck
noncomputable def Qn (f:MF) (a:MA):ME:=fun σ g=>(a σ g).bind f
noncomputable def QbQ (cc:Nat) (m:Str) (f:MF) (o:ME) (a:MA):ME:=fun σ g=>(o σ g).bind fun x g1=>match x with
 | .ref n=>(match g1[n]? with
  | some (.ins c fs)=>if c=cc∧fs.lookup m=none then (a σ g1).bind fun xs g2=>f (.ref n::xs) g2 else .stuck
  | _=>.stuck)
 | _=>.stuck
noncomputable def QcV (c:Nat) (f:MF) (a:MA):ME:=fun σ g=>(a σ g).bind fun xs g1=>(f (.ref g1.length::xs) (g1++[.ins c []])).bind fun d g2=>match d with
 | .non=>.ok (.ref g1.length) g2
 | _=>.stuck
noncomputable def ZO (cs:List Nat) (f:Str) (o:ME):ME:=mOp1 (fun x g=>match x with
 | .ref n=>(match g[n]? with
  | some (.ins c fs)=>if c∈cs then (match fs.lookup f with
   | some d=>.ok d g
   | none=>.stuck) else .stuck
  | _=>.stuck)
 | _=>.stuck) o
noncomputable def putG (f:Str) (v:D):List (Str×D)->List (Str×D)
 | []=>[(f,v)]
 | (g,x)::r=>if g=f then (g,v)::r else (g,x)::putG f v r
noncomputable def QM (cs:List Nat) (f:Str) (o v:ME):MS:=fun σ g=>match v σ g with
 | .ok y g1=>(match o σ g1 with
  | .ok (.ref n) g2=>(match g2[n]? with
   | some (.ins c fs)=>if c∈cs∧fs.length<100 then .nx σ (g2.set n (.ins c (putG f y fs))) else .stuck
   | _=>.stuck)
  | .raise e g'=>.raise e σ g'
  | _=>.stuck)
 | .raise e g'=>.raise e σ g'
 | .stuck=>.stuck
noncomputable def ixD (n:Nat) (i:Int):Option Nat:=if 0≤i then (if i<n then some i.toNat else none) else if -(n:Int)≤i then some (i+n).toNat else none
noncomputable def Y7 (o i v:ME):MS:=fun σ g=>match v σ g with
 | .ok y g1=>(match o σ g1 with
  | .ok (.ref n) g2=>(match i σ g2 with
   | .ok (.int k) g3=>(match g3[n]? with
    | some (.lst ds)=>(match ixD ds.length k with
     | some j=>.nx σ (g3.set n (.lst (ds.set j y)))
     | none=>.stuck)
    | _=>.stuck)
   | .raise e g'=>.raise e σ g'
   | _=>.stuck)
  | .raise e g'=>.raise e σ g'
  | _=>.stuck)
 | .raise e g'=>.raise e σ g'
 | .stuck=>.stuck
noncomputable def Qbd (d:D) (g:G):Res Src:=match d with
 | .tup ds=>.ok ⟨fun _ i=>some ds[i]?,ds.length⟩ g
 | .fl ds=>.ok ⟨fun _ i=>some ds[i]?,ds.length⟩ g
 | .ref n=>(match g[n]? with
  | some (.lst ds)=>.ok ⟨fun g i=>(match g[n]? with | some (.lst es)=>some es[i]? | _=>none),ds.length⟩ g
  | _=>.stuck)
 | _=>.stuck
noncomputable def ZY (a:ME):MI:=fun σ g=>(a σ g).bind Qbd
noncomputable def Q8 (lo:Int) (n:Nat):Src:=⟨fun _ i=>some (if i<n then some (.int (lo+i)) else none),n⟩
noncomputable def inR (j:Int):Prop:=-(2 ^ 62)≤j∧j<2 ^ 62
noncomputable instance (j:Int):Decidable (inR j):=inferInstanceAs (Decidable (_∧_))
noncomputable def QD (a:ME):MI:=fun σ g=>(a σ g).bind fun d g1=>match d with
 | .int j=>if inR j then .ok (Q8 0 j.toNat) g1 else .stuck
 | _=>.stuck
noncomputable def QE (g:G):D->Option (Bool×List D)
 | .tup ds=>some (false,ds)
 | .fl ds=>some (true,ds)
 | .ref n=>(match g[n]? with
  | some (.lst ds)=>some (true,ds)
  | _=>none)
 | _=>none
noncomputable def Qb2 (d1 d2:D) (g:G):Res Src:=match QE g d1,QE g d2 with
 | some (_,xs),some (_,ys)=>.ok ⟨fun g i=>(match QE g d1,QE g d2 with
  | some (_,xs),some (_,ys)=>(match xs[i]?,ys[i]? with
   | some x,some y=>some (some (.tup [x,y]))
   | _,_=>some none)
  | _,_=>none),min xs.length ys.length⟩ g
 | _,_=>.stuck
noncomputable def QaC (a b:ME):MI:=fun σ g=>(a σ g).bind fun x g1=>(b σ g1).bind fun y g2=>Qb2 x y g2
noncomputable def pAdd (x y:D) (g:G):Res D:=match x,y with
 | .int i,.int j=>.ok (.int (i+j)) g
 | .tup xs,.tup ys=>if xs.length+ys.length≤SZ then .ok (.tup (xs++ys)) g else .stuck
 | .ref n,.ref m=>(match g[n]?,g[m]? with
  | some (.lst xs),some (.lst ys)=>if xs.length+ys.length≤SZ then .ok (.ref g.length) (g++[.lst (xs++ys)]) else .stuck
  | _,_=>.stuck)
 | _,_=>.stuck
noncomputable def pSub (x y:D) (g:G):Res D:=match x,y with
 | .int i,.int j=>.ok (.int (i - j)) g
 | _,_=>.stuck
noncomputable def cM (i:Int):Prop:=-(2 ^ 64)<i∧i<2 ^ 64
noncomputable instance (j:Int):Decidable (cM j):=inferInstanceAs (Decidable (_∧_))
noncomputable def pMul (x y:D) (g:G):Res D:=match x,y with
 | .int i,.int j=>if cM i∨cM j then .ok (.int (i*j)) g else .stuck
 | .ref n,.int k=>(match g[n]? with
  | some (.lst ds)=>if (0≤k∧k<1073741824)∧ds.length*k.toNat≤SZ then .ok (.ref g.length) (g++[.lst (List.replicate k.toNat ds).flatten]) else .stuck
  | _=>.stuck)
 | _,_=>.stuck
noncomputable def Zp (x y:D) (g:G):Res D:=match x,y with
 | .int i,.int j=>if 0<j∧j<1073741824 then .ok (.int (i / j)) g else .stuck
 | _,_=>.stuck
noncomputable def pMod (x y:D) (g:G):Res D:=match x,y with
 | .int i,.int j=>if 0<j then .ok (.int (i % j)) g else .stuck
 | _,_=>.stuck
noncomputable def pNeg (x:D) (g:G):Res D:=match x with
 | .int i=>.ok (.int (-i)) g
 | _=>.stuck
noncomputable def pCmp (r:Int->Int->Bool) (x y:D) (g:G):Res D:=match x,y with
 | .int i,.int j=>.ok (.bl (r i j)) g
 | _,_=>.stuck
noncomputable def pLt:=pCmp fun i j=>decide (i<j)
noncomputable def pLe:=pCmp fun i j=>decide (i≤j)
noncomputable def pGt:=pCmp fun i j=>decide (j<i)
noncomputable def pGe:=pCmp fun i j=>decide (j≤i)
noncomputable def b2I (b:Bool):Int:=if b then 1 else 0
noncomputable def eqGs (eq:D->D->Option Bool):List D->List D->Option Bool
 | [],[]=>some true
 | x::xs,y::ys=>(match eq x y,eqGs eq xs ys with
  | some a,some b=>some (a && b)
  | _,_=>none)
 | _,_=>some false
noncomputable def eqI:Nat->D->D->Option Bool
 | 0,x,y=>(match x,y with
  | .int i,.int j=>some (i == j)
  | _,_=>none)
 | f+1,x,y=>(match x,y with
  | .int i,.int j=>some (i == j)
  | .tup xs,.tup ys=>eqGs (eqI f) xs ys
  | _,_=>none)
noncomputable def eqT (g:G) (x y:D):Option Bool:=match x,y with
 | .int i,.int j=>some (i == j)
 | .str s,.str t=>some (s == t)
 | .bl a,.bl b=>some (a == b)
 | .tup xs,.tup ys=>eqGs (eqI 2) xs ys
 | .tup _,.str _=>some false
 | .non,.int _=>some false
 | .ref n,.ref m=>(match g[n]?,g[m]? with
  | some (.lst xs),some (.lst ys)=>if xs.length=ys.length then eqGs (eqI 2) xs ys else some false
  | _,_=>none)
 | _,_=>none
noncomputable def pEq (x y:D) (g:G):Res D:=match eqT g x y with
 | some b=>.ok (.bl b) g
 | none=>.stuck
noncomputable def neT (g:G) (x y:D):Option Bool:=match x,y with
 | .int i,.int j=>some (i == j)
 | .int _,.non=>some false
 | .bl a,.bl b=>some (a == b)
 | .ref n,.ref m=>(match g[n]?,g[m]? with
  | some (.lst xs),some (.lst ys)=>if xs.length=ys.length then eqGs (eqI 2) xs ys else some false
  | _,_=>none)
 | _,_=>none
noncomputable def pNe (x y:D) (g:G):Res D:=match neT g x y with
 | some b=>.ok (.bl (!b)) g
 | none=>.stuck
noncomputable def isNon:D->Bool
 | .non=>true
 | _=>false
noncomputable def pIs (x y:D) (g:G):Res D:=match y with
 | .non=>.ok (.bl (isNon x)) g
 | _=>.stuck
noncomputable def J4 (x y:D) (g:G):Res D:=match y with
 | .non=>.ok (.bl (!isNon x)) g
 | _=>.stuck
noncomputable def atD {α:Type} (xs:List α) (i:Int):Option α:=(ixD xs.length i).bind fun j=>xs[j]?
noncomputable def pIx (x y:D) (g:G):Res D:=match x,y with
 | .tup ds,.int i=>(match atD ds i with
  | some d=>.ok d g
  | none=>.stuck)
 | .fl ds,.int i=>(match atD ds i with
  | some d=>.ok d g
  | none=>.stuck)
 | .ref n,.int i=>(match g[n]? with
  | some (.lst ds)=>(match atD ds i with
   | some d=>.ok d g
   | none=>.stuck)
  | _=>.stuck)
 | .str s,.int i=>if s.length≤SZ then (match atD s.cps.toList i with
  | some c=>.ok (.str ⟨#[c]⟩) g
  | none=>.stuck) else .stuck
 | _,_=>.stuck
noncomputable def sIxD (n d:Nat):Option Int->Nat
 | none=>d
 | some v=>if v<0 then (v+(n:Int)).toNat else min v.toNat n
noncomputable def cutD {α:Type} (xs:List α) (lo hi:Option Int):List α:=(xs.drop (sIxD xs.length 0 lo)).take (sIxD xs.length xs.length hi - sIxD xs.length 0 lo)
noncomputable def J5 (x:D) (lo hi:Option Int) (g:G):Res D:=match x with
 | .tup ds=>.ok (.tup (cutD ds lo hi)) g
 | .fl ds=>.ok (.ref g.length) (g++[.lst (cutD ds lo hi)])
 | .ref n=>(match g[n]? with
  | some (.lst ds)=>.ok (.ref g.length) (g++[.lst (cutD ds lo hi)])
  | _=>.stuck)
 | _=>.stuck
noncomputable abbrev MO:=S3->G->Res (Option Int)
noncomputable def ZG:MO:=fun _ g=>.ok none g
noncomputable def JD (a:ME):MO:=fun σ g=>(a σ g).bind fun d g1=>match d with
 | .int i=>.ok (some i) g1
 | _=>.stuck
noncomputable def Yg (a:ME) (lo hi:MO):ME:=fun σ g=>(a σ g).bind fun x g1=>(lo σ g1).bind fun l g2=>(hi σ g2).bind fun h g3=>J5 x l h g3
noncomputable def pLen (x:D) (g:G):Res D:=match x with
 | .tup ds=>.ok (.int ds.length) g
 | .fl ds=>.ok (.int ds.length) g
 | .ref n=>(match g[n]? with
  | some (.lst ds)=>.ok (.int ds.length) g
  | _=>.stuck)
 | _=>.stuck
noncomputable def J6 (x:D) (g:G):Res D:=match x with
 | .tup ds=>.ok (.tup ds) g
 | .fl ds=>.ok (.tup ds) g
 | .ref n=>(match g[n]? with
  | some (.lst ds)=>.ok (.tup ds) g
  | _=>.stuck)
 | _=>.stuck
noncomputable def QfE (x:D) (g:G):Res D:=match x with
 | .tup ds=>.ok (.ref g.length) (g++[.lst ds])
 | .fl ds=>.ok (.ref g.length) (g++[.lst ds])
 | .ref n=>(match g[n]? with
  | some (.lst ds)=>.ok (.ref g.length) (g++[.lst ds])
  | _=>.stuck)
 | _=>.stuck
noncomputable def pInt (x:D) (g:G):Res D:=match x with
 | .int i=>.ok (.int i) g
 | .bl b=>.ok (.int (if b then 1 else 0)) g
 | _=>.stuck
noncomputable def Z3 (o e:ME):ME:=fun σ g=>(o σ g).bind fun x g1=>match x with
 | .ref n=>(match g1[n]? with
  | some (.lst _)=>(e σ g1).bind fun y g2=>(match g2[n]? with
   | some (.lst ds)=>if ds.length<SZ then .ok .non (g2.set n (.lst (ds++[y]))) else .stuck
   | _=>.stuck)
  | _=>.stuck)
 | _=>.stuck
noncomputable def pPop (x:D) (g:G):Res D:=match x with
 | .ref n=>(match g[n]? with
  | some (.lst ds)=>(match ds[ds.length - 1]? with
   | some y=>.ok y (g.set n (.lst ds.dropLast))
   | none=>.stuck)
  | _=>.stuck)
 | _=>.stuck
inductive Ty where
 | non | bool | int | str | tuple | list | dict
 deriving DecidableEq
noncomputable def Ty.name:Ty->String
 | .non => "NoneType" | .bool => "bool" | .int => "int" | .str => "str" | .tuple => "tuple" | .list => "list" | .dict => "dict"
noncomputable def tyLe (t c:Ty):Bool:=t == c || (t == .bool && c == .int)
noncomputable def tyOf (g:G):D->Option Ty
 | .non=>some .non
 | .bl _=>some .bool
 | .int _=>some .int
 | .str _=>some .str
 | .tup _=>some .tuple
 | .fl _=>some .list
 | .ref n=>(match g[n]? with
  | some (.lst _)=>some .list
  | some (.dct _)=>some .dict
  | _=>none)
noncomputable def ZP (c:Ty) (x:D) (g:G):Res D:=match tyOf g x with
 | some t=>.ok (.bl (tyLe t c)) g
 | none=>.stuck
noncomputable def allB:List D->Option Bool
 | []=>some true
 | .bl b::r=>(allB r).map (b && ·)
 | _::_=>none
noncomputable def pAll (x:D) (g:G):Res D:=match x with
 | .ref n=>(match g[n]? with
  | some (.lst ds)=>(match allB ds with
   | some b=>.ok (.bl b) g
   | none=>.stuck)
  | _=>.stuck)
 | _=>.stuck
noncomputable def Qbe:D->Bool
 | .non=>true
 | .bl _=>true
 | .int _=>true
 | .str _=>true
 | _=>false
noncomputable def eqF (x y:D):Bool:=match x,y with
 | .non,.non=>true
 | .bl a,.bl b=>a == b
 | .int i,.int j=>i == j
 | .str s,.str t=>s == t
 | .bl a,.int j=>b2I a == j
 | .int i,.bl b=>i == b2I b
 | _,_=>false
noncomputable def pIn (neg:Bool) (x y:D) (g:G):Res D:=match QE g y with
 | some (_,ds)=>if Qbe x=true∧ds.all Qbe=true then .ok (.bl (if neg=true then !(ds.any fun d=>eqF d x) else ds.any fun d=>eqF d x)) g else .stuck
 | none=>.stuck
end L3
end
section
namespace L3
open PySem PySem.Spec PyProof.Rows L2
noncomputable def SqF (K:PySem.W.Frag) (H:Hp) (a:Addr) (xs:List V):Prop:=(∃ o,H a=some (.frz o (.lst xs)))∨SqL K (fun _=>none) a xs
theorem SqF.sq {K:PySem.W.Frag} {H:Hp} {a:Addr} {xs:List V} (h:SqF K H a xs):SqL K H a xs:=by
 rcases h with⟨o,h⟩ | (h | ⟨o,h⟩) | h
 ·exact .inl (.inr ⟨o,h⟩)
 ·cases h
 ·cases h
 ·exact .inr h
mutual
inductive Den (K:PySem.W.Frag) (μ:List Addr) (H:Hp):V->D->Prop where
 | non:Den K μ H .non .non
 | bl (b:Bool):Den K μ H (.bl b) (.bl b)
 | int (i:Int):Den K μ H (.int i) (.int i)
 | str (x:Str):Den K μ H (.str x) (.str x)
 | ref {n:Nat} {a:Addr} (h:μ[n]?=some a):Den K μ H (.ref a) (.ref n)
 | tup {a:Addr} {vs:List V} {ds:List D} (h:SqT K H a vs) (hs:Dens K μ H vs ds):Den K μ H (.ref a) (.tup ds)
 | fl {a:Addr} {vs:List V} {ds:List D} (h:SqF K H a vs) (hs:Dens K μ H vs ds):Den K μ H (.ref a) (.fl ds)
inductive Dens (K:PySem.W.Frag) (μ:List Addr) (H:Hp):List V->List D->Prop where
 | nil:Dens K μ H [] []
 | cons {v:V} {d:D} {vs:List V} {ds:List D} (h:Den K μ H v d) (hs:Dens K μ H vs ds):Dens K μ H (v::vs) (d::ds)
end
structure Ext (K:PySem.W.Frag) (μ:List Addr) (H:Hp) (μ':List Addr) (H':Hp):Prop where
 pre:∃ t,μ'=μ++t
 tup:∀ a xs,SqT K H a xs->SqT K H' a xs
 fl:∀ a xs,SqF K H a xs->SqF K H' a xs
section
variable {K:PySem.W.Frag} {ca:Nat->Addr} {μ μ' μ'':List Addr} {H H' H'':Hp}
theorem Ext.refl:Ext K μ H μ H:=⟨⟨[],by simp⟩,fun _ _ h=>h,fun _ _ h=>h⟩
theorem Ext.trans (a:Ext K μ H μ' H') (b:Ext K μ' H' μ'' H''):Ext K μ H μ'' H'':=by
 obtain⟨t,e⟩:=a.pre
 obtain⟨u,f⟩:=b.pre
 exact⟨⟨t++u,by rw [f,e,List.append_assoc]⟩,fun x xs h=>b.tup x xs (a.tup x xs h),fun x xs h=>b.fl x xs (a.fl x xs h)⟩
theorem Ext.at (e:Ext K μ H μ' H') {n:Nat} {a:Addr} (h:μ[n]?=some a):μ'[n]?=some a:=by
 obtain⟨t,rfl⟩:=e.pre
 have hl:n<μ.length:=(List.getElem?_eq_some_iff.mp h).1
 rw [List.getElem?_append_left hl]
 exact h
mutual
theorem Den.mono (e:Ext K μ H μ' H'):∀ {v:V} {d:D},Den K μ H v d->Den K μ' H' v d
 | _,_,.non=>.non
 | _,_,.bl b=>.bl b
 | _,_,.int i=>.int i
 | _,_,.str x=>.str x
 | _,_,.ref h=>.ref (e.at h)
 | _,_,.tup h hs=>.tup (e.tup _ _ h) (Dens.mono e hs)
 | _,_,.fl h hs=>.fl (e.fl _ _ h) (Dens.mono e hs)
theorem Dens.mono (e:Ext K μ H μ' H'):∀ {vs:List V} {ds:List D},Dens K μ H vs ds->Dens K μ' H' vs ds
 | _,_,.nil=>.nil
 | _,_,.cons h hs=>.cons (Den.mono e h) (Dens.mono e hs)
end
theorem Dens.length:∀ {vs:List V} {ds:List D},Dens K μ H vs ds->vs.length=ds.length
 | _,_,.nil=>rfl
 | _,_,.cons _ t=>by rw [List.length_cons,List.length_cons,Dens.length t]
theorem Dens.get:∀ {vs:List V} {ds:List D} {i:Nat} {d:D},Dens K μ H vs ds->ds[i]?=some d->∃ v,vs[i]?=some v∧Den K μ H v d
 | _,_,_,_,.nil,e=>by simp at e
 | _,_,0,_,.cons r _,e=>by simp at e; subst e; exact⟨_,rfl,r⟩
 | _,_,i+1,x,.cons _ t,e=>by
  obtain⟨u,h1,h2⟩:=Dens.get (i:=i) (d:=x) t (by simpa using e)
  exact⟨u,by simpa using h1,h2⟩
theorem Dens.getV:∀ {vs:List V} {ds:List D} {i:Nat} {v:V},Dens K μ H vs ds->vs[i]?=some v->∃ d,ds[i]?=some d∧Den K μ H v d
 | _,_,_,_,.nil,e=>by simp at e
 | _,_,0,_,.cons r _,e=>by simp at e; subst e; exact⟨_,rfl,r⟩
 | _,_,i+1,x,.cons _ t,e=>by
  obtain⟨u,h1,h2⟩:=Dens.getV (i:=i) (v:=x) t (by simpa using e)
  exact⟨u,by simpa using h1,h2⟩
theorem Dens.append:∀ {vs ws:List V} {ds es:List D},Dens K μ H vs ds->Dens K μ H ws es->Dens K μ H (vs++ws) (ds++es)
 | _,_,_,_,.nil,h=>h
 | _,_,_,_,.cons a b,h=>.cons a (Dens.append b h)
theorem Dens.set {x:V} {u:D} (r:Den K μ H x u):∀ {xs:List V} {us:List D} (i:Nat),Dens K μ H xs us->Dens K μ H (xs.set i x) (us.set i u)
 | _,_,_,.nil=>.nil
 | _,_,0,.cons _ t=>.cons r t
 | _,_,i+1,.cons q t=>.cons q (Dens.set r i t)
theorem Dens.take:∀ {xs:List V} {us:List D} (n:Nat),Dens K μ H xs us->Dens K μ H (xs.take n) (us.take n)
 | _,_,0,_=>.nil
 | _,_,_+1,.nil=>.nil
 | _,_,n+1,.cons r t=>.cons r (Dens.take n t)
theorem Dens.drop:∀ {xs:List V} {us:List D} (n:Nat),Dens K μ H xs us->Dens K μ H (xs.drop n) (us.drop n)
 | _,_,0,r=>r
 | _,_,_+1,.nil=>.nil
 | _,_,n+1,.cons _ t=>Dens.drop n t
theorem Dens.ints (ns:List Int):Dens K μ H (ns.map V.int) (ns.map D.int):=by
 induction ns with
 | nil=>exact .nil
 | cons n r ih=>exact .cons (.int n) ih
noncomputable def FRel (K:PySem.W.Frag) (μ:List Addr) (H:Hp):List (Str×V)->List (Str×D)->Prop:=Paired fun p q=>p.1=q.1∧Den K μ H p.2 q.2
noncomputable def KRel (K:PySem.W.Frag) (μ:List Addr) (H:Hp):List (Key×V)->List (Key×D)->Prop:=Paired fun p q=>p.1=q.1∧Den K μ H p.2 q.2
noncomputable def XOb (ca:Nat->Addr) (x:Xc) (o:Obj):Prop:=o.cls=.ref (ca x.1)∧o.dict=none
theorem XOb.map {ca:Nat->Addr} {x:Xc} {o:Obj} (h:XOb ca x o) (f:Array Value->Array Value):XOb ca x (o.mapFields f):=by
 obtain⟨c,d,dt,sl⟩:=o
 cases dt <;> exact h
noncomputable def XO (ca:Nat->Addr) (a:Addr) (x:Xc):HO:=.ext fun h=>∃ o vs,h.get? a=some o∧XOb ca x o∧o.data=.fields vs
noncomputable def ORep (K:PySem.W.Frag) (ca:Nat->Addr) (μ:List Addr) (H:Hp) (a:Addr):GO->Prop
 | .dct ks=>∃ kv,H a=some (.dK kv)∧KRel K μ H kv ks
 | .exc x=>H a=some (XO ca a x)
 | .lst ds=>∃ vs,H a=some (.lst vs)∧Dens K μ H vs ds
 | .ins c fs=>∃ dx fv,H a=some (.ins (ca c) dx fv)∧FRel K μ H fv fs
structure GRep (K:PySem.W.Frag) (ca:Nat->Addr) (μ:List Addr) (H:Hp) (g:G):Prop where
 len:μ.length=g.length
 nd:μ.Nodup
 obj:∀(n:Nat) (a:Addr) (o:GO),μ[n]?=some a->g[n]?=some o->ORep K ca μ H a o
structure Rep (K:PySem.W.Frag) (ca:Nat->Addr) (μ:List Addr) (σ3:S3) (g:G) (σ:L2.St) (H:Hp):Prop where
 g:GRep K ca μ H g
 len:σ.length=σ3.length
 st:∀(i:Nat) (d:D),σ3[i]?=some (some d)->∃ v,σ[i]?=some (some v)∧Den K μ H v d
theorem FRel.mono (e:Ext K μ H μ' H') {fv:List (Str×V)} {fs:List (Str×D)} (h:FRel K μ H fv fs):FRel K μ' H' fv fs:=Paired.imp' (fun _ _ q=>⟨q.1,q.2.mono e⟩) h
theorem KRel.mono (e:Ext K μ H μ' H') {fv:List (Key×V)} {fs:List (Key×D)} (h:KRel K μ H fv fs):KRel K μ' H' fv fs:=Paired.imp' (fun _ _ q=>⟨q.1,q.2.mono e⟩) h
theorem Rep.go {σ3:S3} {g g':G} {σ:L2.St} (r:Rep K ca μ σ3 g σ H) (e:Ext K μ H μ' H') (h:GRep K ca μ' H' g'):Rep K ca μ' σ3 g' σ H' :=
 ⟨h,r.len,fun i d z=>by obtain⟨v,h1,h2⟩:=r.st i d z; exact⟨v,h1,h2.mono e⟩⟩
theorem GRep.addr {g:G} (r:GRep K ca μ H g) {n:Nat} {o:GO} (h:g[n]?=some o):∃ a,μ[n]?=some a∧ORep K ca μ H a o:=by
 have hl:n<g.length:=(List.getElem?_eq_some_iff.mp h).1
 have hm:n<μ.length:=by rw [r.len]; exact hl
 exact⟨μ[n],by simp [hm],r.obj n _ o (by simp [hm]) h⟩
theorem ORep.is {a:Addr} {o:GO} (h:ORep K ca μ H a o):∃ u,H a=some u:=by
 cases o with
 | lst ds=>obtain⟨_,h,_⟩:=h; exact⟨_,h⟩
 | ins c fs=>obtain⟨_,_,h,_⟩:=h; exact⟨_,h⟩
 | dct ks=>obtain⟨_,h,_⟩:=h; exact⟨_,h⟩
 | exc x=>exact⟨_,h⟩
theorem GRep.known {g:G} (r:GRep K ca μ H g) {a:Addr} (h:a∈μ):∃ u,H a=some u:=by
 obtain⟨n,hn⟩:=List.getElem?_of_mem h
 have hl:n<μ.length:=(List.getElem?_eq_some_iff.mp hn).1
 have hg:n<g.length:=by rw [← r.len]; exact hl
 exact(r.obj n a g[n] hn (by simp [hg])).is
theorem Q0 {p:Addr} {o:HO} (hp:H p=none):Ext K μ H μ (upd H p o):=⟨⟨[],by simp⟩,fun a xs h=>by
 rcases h with(h | ⟨u,h⟩) | h
 ·exact .inl (.inl (by rw [Qx (QO h hp)]; exact h))
 ·exact .inl (.inr ⟨u,by rw [Qx (QO h hp)]; exact h⟩)
 ·exact .inr h,fun a xs h=>by
 rcases h with⟨u,h⟩ | h
 ·exact .inl ⟨u,by rw [Qx (QO h hp)]; exact h⟩
 ·exact .inr h⟩
theorem ORep.mono {a:Addr} {o:GO} (e:Ext K μ H μ' H') (ha:∀ u,H a=some u->H' a=some u) (h:ORep K ca μ H a o):ORep K ca μ' H' a o:=by
 cases o with
 | lst ds=>obtain⟨vs,h,q⟩:=h; exact⟨vs,ha _ h,q.mono e⟩
 | ins c fs=>obtain⟨dx,fv,h,q⟩:=h; exact⟨dx,fv,ha _ h,q.mono e⟩
 | dct ks=>obtain⟨kv,h,q⟩:=h; exact⟨kv,ha _ h,q.mono e⟩
 | exc x=>exact ha _ h
theorem GRep.new {g:G} {p:Addr} {o:HO} (r:GRep K ca μ H g) (hp:H p=none):GRep K ca μ (upd H p o) g :=
 ⟨r.len,r.nd,fun n a u h1 h2=>(r.obj n a u h1 h2).mono (Q0 hp) fun z hz=>by rw [Qx (QO hz hp)]; exact hz⟩
theorem QB {p:Addr} {o:HO} (hp:H p=none):Ext K μ H (μ++[p]) (upd H p o):=⟨⟨[p],rfl⟩,(Q0 (μ:=μ) hp).tup,(Q0 (μ:=μ) hp).fl⟩
theorem GRep.push {g:G} {p:Addr} {o:HO} {u:GO} (r:GRep K ca μ H g) (hp:H p=none) (ho:ORep K ca (μ++[p]) (upd H p o) p u):GRep K ca (μ++[p]) (upd H p o) (g++[u]):=by
 have nm:p∉μ:=fun h=>by
  obtain⟨z,hz⟩:=r.known h
  rw [hp] at hz; cases hz
 refine⟨by rw [List.length_append,List.length_append,r.len]; rfl,?_,fun n a w h1 h2=>?_⟩
 ·rw [List.nodup_append]
  exact⟨r.nd,by simp,fun x hx y hy e=>nm (by rw [List.mem_singleton.mp hy] at e; rw [← e]; exact hx)⟩
 ·by_cases hn:n<g.length
  ·rw [List.getElem?_append_left hn] at h2
   rw [List.getElem?_append_left (by rw [r.len]; exact hn)] at h1
   exact(r.obj n a w h1 h2).mono (QB hp) fun z hz=>by rw [Qx (QO hz hp)]; exact hz
  ·rw [List.getElem?_append_right (by omega)] at h2
   rw [List.getElem?_append_right (by rw [r.len]; omega)] at h1
   have e0:n - g.length=0:=by
    have:=(List.getElem?_eq_some_iff.mp h2).1
    simp at this; omega
   rw [e0] at h2
   rw [r.len,e0] at h1
   simp at h1 h2
   subst h1 h2
   exact ho
theorem Qbf {a:Addr} {o o':HO} (h:H a=some o) (no:∀ xs,o≠.tup xs) (nf:∀ b u,o≠.frz b u):Ext K μ H μ (upd H a o'):=⟨⟨[],by simp⟩,fun b xs hb=>by
 rcases hb with(z | ⟨u,z⟩) | z
 ·exact .inl (.inl (by rw [Qx (Qid z h (Ne.symm (no xs)))]; exact z))
 ·exact .inl (.inr ⟨u,by rw [Qx (Qid z h (Ne.symm (nf u _)))]; exact z⟩)
 ·exact .inr z,fun b xs hb=>by
 rcases hb with⟨u,z⟩ | z
 ·exact .inl ⟨u,by rw [Qx (Qid z h (Ne.symm (nf u _)))]; exact z⟩
 ·exact .inr z⟩
theorem GRep.set {g:G} {n:Nat} {a:Addr} {o o':HO} {u:GO} (r:GRep K ca μ H g) (hn:μ[n]?=some a) (h:H a=some o) (no:∀ xs,o≠.tup xs) (nf:∀ b u,o≠.frz b u) (ho:ORep K ca μ (upd H a o') a u) :
  GRep K ca μ (upd H a o') (g.set n u):=by
 refine⟨by rw [List.length_set,r.len],r.nd,fun m b w h1 h2=>?_⟩
 by_cases e:m=n
 ·subst e
  rw [hn] at h1; cases h1
  have hl:m<g.length:=by
   rw [← r.len]; exact(List.getElem?_eq_some_iff.mp hn).1
  rw [List.getElem?_set_self hl] at h2; cases h2
  exact ho
 ·rw [List.getElem?_set_ne (Ne.symm e)] at h2
  have nb:b≠a:=fun z=>by
   subst z
   have e1:=(List.getElem?_eq_some_iff.mp h1)
   have e2:=(List.getElem?_eq_some_iff.mp hn)
   obtain⟨l1,q1⟩:=e1
   obtain⟨l2,q2⟩:=e2
   exact e ((List.getElem_inj r.nd).mp (q1.trans q2.symm))
  exact(r.obj m b w h1 h2).mono (Qbf h no nf) fun z hz=>by rw [Qx nb]; exact hz
noncomputable abbrev XS:=Xc->L2.St->Hp->Prop
noncomputable def FpW (X:Cx) (pins:List (Addr×Obj)) (H:Hp) (b:Addr):Prop :=
 H b=none∧b≠X.env.locals∧b∉X.fs∧(b∈X.ex∨X.s₀.heap.get? b=none)∧(∀ x c,X.env.cells.lookup x=some c->c≠b)∧∀ p∈X.pn++pins,p.1≠b
structure Fl (X:Cx) (ca:Nat->Addr) (a:Addr) (x:Xc) (H:Hp) (h:Heap):Prop where
 fp:FpW X [] H a
 ln:x.2=none
 ex:∃ oe vs,h.get? a=some oe∧XOb ca x oe∧oe.data=.fields vs∧1<vs.size ∧
  (vs[1]?=some .none∨∃ T oT ts,vs[1]?=some (.ref T)∧T≠a∧FpW X [] H T∧h.get? T=some oT∧oT.data=.fields ts∧3<ts.size∧(ts[3]?=some .none∨ts[3]?=some (rawInt X.env.locals)))
noncomputable def XE (X:Cx) (ca:Nat->Addr) (Φ:XS):Value->Shared->Prop:=fun v s=>∃ a x σ H,v=.ref a∧Inv X [] σ H s∧Fl X ca a x H s.heap∧Φ x σ H
noncomputable abbrev xon (X:Cx) (pn:List (Addr×Obj)):Cx:={ X with pn:=pn,xe:=fun _ _=>False }
noncomputable abbrev xat (X:Cx) (ca:Nat->Addr) (pn:List (Addr×Obj)) (Φ:XS):Cx:={ X with pn:=pn,xe:=XE (xon X pn) ca Φ }
noncomputable def RaP (K:PySem.W.Frag) (ca:Nat->Addr) (Φ:XS) (σ:L2.St) (H:Hp) (μ:List Addr) (x:Xc) (g':G):Prop:=∀ H' μ',Ext K μ H μ' H'->GRep K ca μ' H' g'->Φ x σ H'
noncomputable def Post (K:PySem.W.Frag) (ca:Nat->Addr) (Φ:XS) (σ:L2.St) (Q:VK) (H:Hp) (μ:List Addr):Res D->Prop
 | .ok d g'=>∀ v H' μ',Ext K μ H μ' H'->GRep K ca μ' H' g'->Den K μ' H' v d->Q v H'
 | .raise x g'=>RaP K ca Φ σ H μ x g'
 | .stuck=>False
noncomputable def PostT (K:PySem.W.Frag) (ca:Nat->Addr) (Φ:XS) (σ:L2.St) (Q:Bool->Hp->Prop) (H:Hp) (μ:List Addr):Res Bool->Prop
 | .ok b g'=>∀ H' μ',Ext K μ H μ' H'->GRep K ca μ' H' g'->Q b H'
 | .raise x g'=>RaP K ca Φ σ H μ x g'
 | .stuck=>False
noncomputable def PostA (K:PySem.W.Frag) (ca:Nat->Addr) (Φ:XS) (σ:L2.St) (Q:List V->Hp->Prop) (H:Hp) (μ:List Addr):Res (List D)->Prop
 | .ok ds g'=>∀ vs H' μ',Ext K μ H μ' H'->GRep K ca μ' H' g'->Dens K μ' H' vs ds->Q vs H'
 | .raise x g'=>RaP K ca Φ σ H μ x g'
 | .stuck=>False
noncomputable def PostS (K:PySem.W.Frag) (ca:Nat->Addr) (Φ:XS) (E:Ends) (H:Hp) (μ:List Addr):Out->Prop
 | .nx σ3 g'=>∀ σ' H' μ',Ext K μ H μ' H'->Rep K ca μ' σ3 g' σ' H'->E.nx σ' H'
 | .bk σ3 g'=>∀ σ' H' μ',Ext K μ H μ' H'->Rep K ca μ' σ3 g' σ' H'->E.bk σ' H'
 | .ct σ3 g'=>∀ σ' H' μ',Ext K μ H μ' H'->Rep K ca μ' σ3 g' σ' H'->E.ct σ' H'
 | .rt d g'=>∀ v H' μ',Ext K μ H μ' H'->GRep K ca μ' H' g'->Den K μ' H' v d->E.rt v H'
 | .raise x σ3 g'=>∀ σ' H' μ',Ext K μ H μ' H'->Rep K ca μ' σ3 g' σ' H'->Φ x σ' H'
 | .stuck=>False
noncomputable def up (K:PySem.W.Frag) (ca:Nat->Addr) (Φ:XS) (m:ME):TE:=fun σ H Q=>∃ σ3 g μ,Rep K ca μ σ3 g σ H∧Post K ca Φ σ Q H μ (m σ3 g)
noncomputable def upT (K:PySem.W.Frag) (ca:Nat->Addr) (Φ:XS) (m:MT):TT:=fun σ H Q=>∃ σ3 g μ,Rep K ca μ σ3 g σ H∧PostT K ca Φ σ Q H μ (m σ3 g)
noncomputable def upA (K:PySem.W.Frag) (ca:Nat->Addr) (Φ:XS) (m:MA):TA:=fun σ H Q=>∃ σ3 g μ,Rep K ca μ σ3 g σ H∧PostA K ca Φ σ Q H μ (m σ3 g)
noncomputable def upS (K:PySem.W.Frag) (ca:Nat->Addr) (Φ:XS) (m:MS):TS:=fun E σ H=>∃ σ3 g μ,Rep K ca μ σ3 g σ H∧PostS K ca Φ E H μ (m σ3 g)
noncomputable def PE3 (ca:Nat->Addr) (X:Cx) (e:Expr) (m:ME):Prop:=∀ pn Φ,PE (xat X ca pn Φ) e (up X.K ca Φ m)
noncomputable def PT3 (ca:Nat->Addr) (X:Cx) (e:Expr) (m:MT):Prop:=∀ pn Φ,PT (xat X ca pn Φ) e (upT X.K ca Φ m)
noncomputable def PW3 (ca:Nat->Addr) (X:Cx) (e:Expr) (m:MT):Prop:=∀ pn Φ,PW (xat X ca pn Φ) e (upT X.K ca Φ m)
noncomputable def PA3 (ca:Nat->Addr) (X:Cx) (es:List Expr) (m:MA):Prop:=∀ pn Φ,PA (xat X ca pn Φ) es (upA X.K ca Φ m)
noncomputable def PS3 (ca:Nat->Addr) (X:Cx) (st:Stmt) (m:MS):Prop:=∀ pn Φ,PS (xat X ca pn Φ) st (upS X.K ca Φ m)
noncomputable def PSs3 (ca:Nat->Addr) (X:Cx) (sts:List Stmt) (m:MS):Prop:=∀ pn Φ,PSs (xat X ca pn Φ) sts (upS X.K ca Φ m)
variable {Φ:XS} {σ:L2.St}
theorem RaP.go {x:Xc} {g':G} (e:Ext K μ H μ' H') (h:RaP K ca Φ σ H μ x g'):RaP K ca Φ σ H' μ' x g':=fun H2 μ2 e2=>h H2 μ2 (e.trans e2)
theorem Post.go {Q:VK} {r:Res D} (e:Ext K μ H μ' H') (h:Post K ca Φ σ Q H μ r):Post K ca Φ σ Q H' μ' r:=by
 cases r with
 | ok d g'=>exact fun v H2 μ2 e2=>h v H2 μ2 (e.trans e2)
 | raise _ _=>exact RaP.go e h
 | stuck=>exact h
theorem PostT.go {Q:Bool->Hp->Prop} {r:Res Bool} (e:Ext K μ H μ' H') (h:PostT K ca Φ σ Q H μ r):PostT K ca Φ σ Q H' μ' r:=by
 cases r with
 | ok d g'=>exact fun H2 μ2 e2=>h H2 μ2 (e.trans e2)
 | raise _ _=>exact RaP.go e h
 | stuck=>exact h
theorem PostA.go {Q:List V->Hp->Prop} {r:Res (List D)} (e:Ext K μ H μ' H') (h:PostA K ca Φ σ Q H μ r):PostA K ca Φ σ Q H' μ' r:=by
 cases r with
 | ok d g'=>exact fun v H2 μ2 e2=>h v H2 μ2 (e.trans e2)
 | raise _ _=>exact RaP.go e h
 | stuck=>exact h
theorem PostS.go {E:Ends} {r:Out} (e:Ext K μ H μ' H') (h:PostS K ca Φ E H μ r):PostS K ca Φ E H' μ' r:=by
 cases r with
 | nx _ _=>exact fun v H2 μ2 e2=>h v H2 μ2 (e.trans e2)
 | bk _ _=>exact fun v H2 μ2 e2=>h v H2 μ2 (e.trans e2)
 | ct _ _=>exact fun v H2 μ2 e2=>h v H2 μ2 (e.trans e2)
 | rt _ _=>exact fun v H2 μ2 e2=>h v H2 μ2 (e.trans e2)
 | raise _ _ _=>exact fun v H2 μ2 e2=>h v H2 μ2 (e.trans e2)
 | stuck=>exact h
theorem Post.pure {Q:VK} {g:G} {v:V} {d:D} (h:Post K ca Φ σ Q H μ (.ok d g)) (r:GRep K ca μ H g) (q:Den K μ H v d):Q v H:=h v H μ .refl r q
theorem RaP.stmt {x:Xc} {σ3:S3} {g g':G} {E:Ends} (R:Rep K ca μ σ3 g σ H) (h:PostS K ca Φ E H μ (.raise x σ3 g')):RaP K ca Φ σ H μ x g':=fun H' μ' e r=>h σ H' μ' e (R.go e r)
theorem Qdp {m:ME} {α:Type} {k:D->G->Res α} {σ3:S3} {g:G} (R:Rep K ca μ σ3 g σ H) {P:Res α->Hp->List Addr->Prop} (hp:P ((m σ3 g).bind k) H μ)
  (hst:∀ H μ,¬ P .stuck H μ) (hra:∀ e g H μ,P (.raise e g) H μ->RaP K ca Φ σ H μ e g) (hgo:∀ r H μ H' μ',Ext K μ H μ' H'->P r H μ->P r H' μ') :
  up K ca Φ m σ H fun x H1=>∃ d g1 μ1,Ext K μ H μ1 H1∧Rep K ca μ1 σ3 g1 σ H1∧Den K μ1 H1 x d∧P (k d g1) H1 μ1:=by
 refine⟨σ3,g,μ,R,?_⟩
 cases hm:m σ3 g with
 | ok d g1 =>
  rw [hm] at hp
  exact fun v H1 μ1 e1 r1 d1=>⟨d,g1,μ1,e1,R.go e1 r1,d1,hgo _ _ _ _ _ e1 hp⟩
 | raise e g1=>rw [hm] at hp; exact hra _ _ _ _ hp
 | stuck=>rw [hm] at hp; exact(hst _ _ hp).elim
theorem JE {m:ME} {k:D->G->Res D} {σ3:S3} {g:G} {Q:VK} (R:Rep K ca μ σ3 g σ H) (hp:Post K ca Φ σ Q H μ ((m σ3 g).bind k)) :
  up K ca Φ m σ H fun x H1=>∃ d g1 μ1,Ext K μ H μ1 H1∧Rep K ca μ1 σ3 g1 σ H1∧Den K μ1 H1 x d∧Post K ca Φ σ Q H1 μ1 (k d g1) :=
 Qdp (P:=fun r H μ=>Post K ca Φ σ Q H μ r) R hp (fun _ _ h=>h) (fun _ _ _ _ h=>h) fun _ _ _ _ _ e h=>h.go e
theorem Qj4 {m:ME} {k:D->G->Res Bool} {σ3:S3} {g:G} {Q:Bool->Hp->Prop} (R:Rep K ca μ σ3 g σ H) (hp:PostT K ca Φ σ Q H μ ((m σ3 g).bind k)) :
  up K ca Φ m σ H fun x H1=>∃ d g1 μ1,Ext K μ H μ1 H1∧Rep K ca μ1 σ3 g1 σ H1∧Den K μ1 H1 x d∧PostT K ca Φ σ Q H1 μ1 (k d g1) :=
 Qdp (P:=fun r H μ=>PostT K ca Φ σ Q H μ r) R hp (fun _ _ h=>h) (fun _ _ _ _ h=>h) fun _ _ _ _ _ e h=>h.go e
theorem Qlj {m:ME} {k:D->G->Res (List D)} {σ3:S3} {g:G} {Q:List V->Hp->Prop} (R:Rep K ca μ σ3 g σ H) (hp:PostA K ca Φ σ Q H μ ((m σ3 g).bind k)) :
  up K ca Φ m σ H fun x H1=>∃ d g1 μ1,Ext K μ H μ1 H1∧Rep K ca μ1 σ3 g1 σ H1∧Den K μ1 H1 x d∧PostA K ca Φ σ Q H1 μ1 (k d g1) :=
 Qdp (P:=fun r H μ=>PostA K ca Φ σ Q H μ r) R hp (fun _ _ h=>h) (fun _ _ _ _ h=>h) fun _ _ _ _ _ e h=>h.go e
theorem Qd0 {m:MT} {α:Type} {k:Bool->G->Res α} {σ3:S3} {g:G} (R:Rep K ca μ σ3 g σ H) {P:Res α->Hp->List Addr->Prop} (hp:P ((m σ3 g).bind k) H μ)
  (hst:∀ H μ,¬ P .stuck H μ) (hra:∀ e g H μ,P (.raise e g) H μ->RaP K ca Φ σ H μ e g) (hgo:∀ r H μ H' μ',Ext K μ H μ' H'->P r H μ->P r H' μ') :
  upT K ca Φ m σ H fun b H1=>∃ g1 μ1,Ext K μ H μ1 H1∧Rep K ca μ1 σ3 g1 σ H1∧P (k b g1) H1 μ1:=by
 refine⟨σ3,g,μ,R,?_⟩
 cases hm:m σ3 g with
 | ok d g1 =>
  rw [hm] at hp
  exact fun H1 μ1 e1 r1=>⟨g1,μ1,e1,R.go e1 r1,hgo _ _ _ _ _ e1 hp⟩
 | raise e g1=>rw [hm] at hp; exact hra _ _ _ _ hp
 | stuck=>rw [hm] at hp; exact(hst _ _ hp).elim
theorem Qj5 {m:MT} {k:Bool->G->Res D} {σ3:S3} {g:G} {Q:VK} (R:Rep K ca μ σ3 g σ H) (hp:Post K ca Φ σ Q H μ ((m σ3 g).bind k)) :
  upT K ca Φ m σ H fun b H1=>∃ g1 μ1,Ext K μ H μ1 H1∧Rep K ca μ1 σ3 g1 σ H1∧Post K ca Φ σ Q H1 μ1 (k b g1) :=
 Qd0 (P:=fun r H μ=>Post K ca Φ σ Q H μ r) R hp (fun _ _ h=>h) (fun _ _ _ _ h=>h) fun _ _ _ _ _ e h=>h.go e
theorem QfF {m:MT} {k:Bool->G->Res Bool} {σ3:S3} {g:G} {Q:Bool->Hp->Prop} (R:Rep K ca μ σ3 g σ H) (hp:PostT K ca Φ σ Q H μ ((m σ3 g).bind k)) :
  upT K ca Φ m σ H fun b H1=>∃ g1 μ1,Ext K μ H μ1 H1∧Rep K ca μ1 σ3 g1 σ H1∧PostT K ca Φ σ Q H1 μ1 (k b g1) :=
 Qd0 (P:=fun r H μ=>PostT K ca Φ σ Q H μ r) R hp (fun _ _ h=>h) (fun _ _ _ _ h=>h) fun _ _ _ _ _ e h=>h.go e
theorem Qd1 {m:MA} {α:Type} {k:List D->G->Res α} {σ3:S3} {g:G} (R:Rep K ca μ σ3 g σ H) {P:Res α->Hp->List Addr->Prop} (hp:P ((m σ3 g).bind k) H μ)
  (hst:∀ H μ,¬ P .stuck H μ) (hra:∀ e g H μ,P (.raise e g) H μ->RaP K ca Φ σ H μ e g) (hgo:∀ r H μ H' μ',Ext K μ H μ' H'->P r H μ->P r H' μ') :
  upA K ca Φ m σ H fun xs H1=>∃ ds g1 μ1,Ext K μ H μ1 H1∧Rep K ca μ1 σ3 g1 σ H1∧Dens K μ1 H1 xs ds∧P (k ds g1) H1 μ1:=by
 refine⟨σ3,g,μ,R,?_⟩
 cases hm:m σ3 g with
 | ok d g1 =>
  rw [hm] at hp
  exact fun v H1 μ1 e1 r1 d1=>⟨d,g1,μ1,e1,R.go e1 r1,d1,hgo _ _ _ _ _ e1 hp⟩
 | raise e g1=>rw [hm] at hp; exact hra _ _ _ _ hp
 | stuck=>rw [hm] at hp; exact(hst _ _ hp).elim
theorem QcW {m:MA} {k:List D->G->Res D} {σ3:S3} {g:G} {Q:VK} (R:Rep K ca μ σ3 g σ H) (hp:Post K ca Φ σ Q H μ ((m σ3 g).bind k)) :
  upA K ca Φ m σ H fun xs H1=>∃ ds g1 μ1,Ext K μ H μ1 H1∧Rep K ca μ1 σ3 g1 σ H1∧Dens K μ1 H1 xs ds∧Post K ca Φ σ Q H1 μ1 (k ds g1) :=
 Qd1 (P:=fun r H μ=>Post K ca Φ σ Q H μ r) R hp (fun _ _ h=>h) (fun _ _ _ _ h=>h) fun _ _ _ _ _ e h=>h.go e
theorem Qj6 {m:MA} {k:List D->G->Res (List D)} {σ3:S3} {g:G} {Q:List V->Hp->Prop} (R:Rep K ca μ σ3 g σ H) (hp:PostA K ca Φ σ Q H μ ((m σ3 g).bind k)) :
  upA K ca Φ m σ H fun xs H1=>∃ ds g1 μ1,Ext K μ H μ1 H1∧Rep K ca μ1 σ3 g1 σ H1∧Dens K μ1 H1 xs ds∧PostA K ca Φ σ Q H1 μ1 (k ds g1) :=
 Qd1 (P:=fun r H μ=>PostA K ca Φ σ Q H μ r) R hp (fun _ _ h=>h) (fun _ _ _ _ h=>h) fun _ _ _ _ _ e h=>h.go e
theorem Za {m:ME} {Q Q':VK} (h:up K ca Φ m σ H Q) (i:∀ x H1,Q x H1->Q' x H1):up K ca Φ m σ H Q':=by
 obtain⟨σ3,g,μ,R,p⟩:=h
 refine⟨σ3,g,μ,R,?_⟩
 cases hm:m σ3 g with
 | ok d g1=>rw [hm] at p; exact fun v H1 μ1 e r q=>i _ _ (p v H1 μ1 e r q)
 | raise e g1=>rw [hm] at p; exact p
 | stuck=>rw [hm] at p; exact p
theorem QaV {m:MT} {Q Q':Bool->Hp->Prop} (h:upT K ca Φ m σ H Q) (i:∀ x H1,Q x H1->Q' x H1):upT K ca Φ m σ H Q':=by
 obtain⟨σ3,g,μ,R,p⟩:=h
 refine⟨σ3,g,μ,R,?_⟩
 cases hm:m σ3 g with
 | ok d g1=>rw [hm] at p; exact fun H1 μ1 e r=>i _ _ (p H1 μ1 e r)
 | raise e g1=>rw [hm] at p; exact p
 | stuck=>rw [hm] at p; exact p
theorem Ju {m:MA} {Q Q':List V->Hp->Prop} (h:upA K ca Φ m σ H Q) (i:∀ x H1,Q x H1->Q' x H1):upA K ca Φ m σ H Q':=by
 obtain⟨σ3,g,μ,R,p⟩:=h
 refine⟨σ3,g,μ,R,?_⟩
 cases hm:m σ3 g with
 | ok d g1=>rw [hm] at p; exact fun v H1 μ1 e r q=>i _ _ (p v H1 μ1 e r q)
 | raise e g1=>rw [hm] at p; exact p
 | stuck=>rw [hm] at p; exact p
end
theorem Zo {X:Cx} {e:Expr} {t t':TE} (h:PE X e t) (i:∀ σ H Q,t' σ H Q->t σ H Q):PE X e t':=fun pins s σ H Q I q=>h pins s σ H Q I (i σ H Q q)
theorem Qdq {X:Cx} {e:Expr} {t t':TT} (h:PT X e t) (i:∀ σ H Q,t' σ H Q->t σ H Q):PT X e t':=fun pins s σ H Q I q=>h pins s σ H Q I (i σ H Q q)
theorem QfG {X:Cx} {e:Expr} {t t':TT} (h:PW X e t) (i:∀ σ H Q,t' σ H Q->t σ H Q):PW X e t':=fun w pins s σ H Q I q=>h w pins s σ H Q I (i σ H Q q)
theorem QfH {X:Cx} {e:List Expr} {t t':TA} (h:PA X e t) (i:∀ σ H Q,t' σ H Q->t σ H Q):PA X e t':=fun p pins s σ H Q I q=>h p pins s σ H Q I (i σ H Q q)
theorem Z4 {X:Cx} {e:Stmt} {t t':TS} (h:PS X e t) (i:∀ D σ H,t' D σ H->t D σ H):PS X e t':=fun pins s σ H D I q=>h pins s σ H D I (i D σ H q)
theorem Qd2 {X:Cx} {e:List Stmt} {t t':TS} (h:PSs X e t) (i:∀ D σ H,t' D σ H->t D σ H):PSs X e t':=fun pins s σ H D I q=>h pins s σ H D I (i D σ H q)
section
variable {X:Cx} {ca:Nat->Addr} {a b c e:Expr} {es rest:List Expr} {ma mb me:ME} {tc ta tb:MT} {mr:MA} {pos:Pos}
theorem Qa (i:Nat) {x:Str} (hN:X.N[i]?=some x:=by rfl) (hv:Vis X.env.scope x:=by first | exact Or.inl rfl | exact Or.inr (Or.inl rfl) | exact Or.inr (Or.inr rfl)) (hd:(x == ("__debug__" : Str))=false:=by decide)
  (hcd:(x == ("__classdict__" : Str))=false:=by decide):PE3 ca X (.Name x pos) (mVar i) :=
 fun pn Φ=>Zo (Qjp (X:=xat X ca pn Φ) hN hv hd hcd) fun σ H Q hQ=>by
  obtain⟨σ3,g,μ,R,p⟩:=hQ
  unfold mVar at p
  cases e:σ3[i]? with
  | none=>rw [e] at p; exact p.elim
  | some o =>
   cases o with
   | none=>rw [e] at p; exact p.elim
   | some d =>
    rw [e] at p
    obtain⟨v,h1,h2⟩:=R.st i d e
    exact⟨v,h1,p v H μ .refl R.g h2⟩
theorem QfI {v:V} {d:D} (h:∀ pn Φ,PE (xat X ca pn Φ) e (tC v)) (hd:∀ K μ H,Den K μ H v d):PE3 ca X e (mLit d) :=
 fun pn Φ=>Zo (h pn Φ) fun _ H _ ⟨_,_,μ,R,p⟩=>p v H μ .refl R.g (hd _ _ _)
theorem Qf {i:Int} {j:Nat}:PE3 ca X (.Constant (.int i) j pos) (mLit (.int i)):=QfI (fun _ _=>Qjq) fun _ _ _=>.int i
theorem QcX {x:Str} {j:Nat}:PE3 ca X (.Constant (.str x) j pos) (mLit (.str x)):=QfI (fun _ _=>Qjs) fun _ _ _=>.str x
theorem r_bl {x:Bool} {j:Nat}:PE3 ca X (.Constant (.bool x) j pos) (mLit (.bl x)):=QfI (fun _ _=>QkZ) fun _ _ _=>.bl x
theorem JF {j:Nat}:PE3 ca X (.Constant .none j pos) (mLit .non):=QfI (fun _ _=>Qjr) fun _ _ _=>.non
theorem QhR {x:Str} {v:V} {u:Value} {d:D} (hm:X.mg x=some u) (r:RelV v u) (hd':∀ K μ H,Den K μ H v d) (hg:Gl X x:=by rfl) (hd:(x == ("__debug__" : Str))=false:=by decide):PE3 ca X (.Name x pos) (mLit d) :=
 QfI (fun pn Φ=>Qig (X:=xat X ca pn Φ) hg hm r hd) hd'
noncomputable def Jc (K:PySem.W.Frag) (ca:Nat->Addr) (r:R2) (f:D->D->G->Res D):Prop :=
 ∀(Φ:XS) (σ:L2.St) (H:Hp) (μ:List Addr) (g:G) (x y:V) (dx dy:D) (Q:VK),GRep K ca μ H g->Den K μ H x dx->Den K μ H y dy->Post K ca Φ σ Q H μ (f dx dy g)->r x y H Q
theorem Qd3 {K:PySem.W.Frag} {Φ:XS} {r:R2} {f:D->D->G->Res D} (hp:Jc K ca r f) (σ:L2.St) (H:Hp) (Q:VK) (h:up K ca Φ (mOp2 f ma mb) σ H Q):tOp r (up K ca Φ ma) (up K ca Φ mb) σ H Q:=by
 obtain⟨σ3,g,μ,R,p⟩:=h
 refine Za (JE R p) fun x H1 ⟨dx,g1,μ1,e1,R1,q1,p1⟩=>?_
 refine Za (JE R1 p1) fun y H2 ⟨dy,g2,μ2,e2,R2,q2,p2⟩=>?_
 exact hp Φ σ H2 μ2 g2 x y dx dy Q R2.g (q1.mono e2) q2 p2
theorem QeP {op:Operator} {r:R2} {f:D->D->G->Res D} (ho:∀ pn Φ,OpR (xat X ca pn Φ) (binaryOp op) r) (hp:Jc X.K ca r f) (ha:PE3 ca X a ma) (hb:PE3 ca X b mb):PE3 ca X (.BinOp a op b pos) (mOp2 f ma mb) :=
 fun pn Φ=>Zo (Qk9 (ho pn Φ) (ha pn Φ) (hb pn Φ)) (Qd3 hp)
theorem QfJ {op:CmpOp} {r:R2} {f:D->D->G->Res D} (ho:∀ pn Φ,OpR (xat X ca pn Φ) (compareOp op) r) (hp:Jc X.K ca r f) (ha:PE3 ca X a ma) (hb:PE3 ca X b mb) (hm:behindInMarks op b=false):PE3 ca X (.Compare a [op] [b] pos) (mOp2 f ma mb) :=
 fun pn Φ=>Zo (Qiq (ho pn Φ) (ha pn Φ) (hb pn Φ) hm) (Qd3 hp)
theorem r_ix {r:R2} {f:D->D->G->Res D} (ho:∀ pn Φ,IxR (xat X ca pn Φ) r) (hp:Jc X.K ca r f) (ha:PE3 ca X a ma) (hb:PE3 ca X b mb) (hs:Qdn b:=by exact fun _ _=>rfl):PE3 ca X (.Subscript a b pos) (mOp2 f ma mb) :=
 fun pn Φ=>Zo (Qlg (ho pn Φ) (ha pn Φ) (hb pn Φ) hs) (Qd3 hp)
theorem r_un {op:UnaryOp} {r:V->Hp->VK->Prop} {f:D->G->Res D} (ho:∀ pn Φ,UnR (xat X ca pn Φ) (unaryOp op) r)
  (hp:∀(Φ:XS) (σ:L2.St) (H:Hp) (μ:List Addr) (g:G) (x:V) (dx:D) (Q:VK),GRep X.K ca μ H g->Den X.K μ H x dx->Post X.K ca Φ σ Q H μ (f dx g)->r x H Q) (ha:PE3 ca X a ma):PE3 ca X (.UnaryOp op a pos) (mOp1 f ma) :=
 fun pn Φ=>Zo (Qla (ho pn Φ) (ha pn Φ)) fun σ H Q ⟨σ3,g,μ,R,p⟩=>Za (JE R p) fun x H1 ⟨dx,g1,μ1,e1,R1,q1,p1⟩=>hp Φ σ H1 μ1 g1 x dx Q R1.g q1 p1
theorem Ql:PA3 ca X [] mNil:=fun pn Φ=>QfH (QdX (X:=xat X ca pn Φ)) fun _ H _ ⟨_,_,μ,R,p⟩=>p [] H μ .refl R.g .nil
theorem JG (ha:PE3 ca X e me) (hr:PA3 ca X es mr) (hs:starEach (e::es) X.env=(false,eval e X.env)::starEach es X.env:=by rfl):PA3 ca X (e::es) (Qb me mr) :=
 fun pn Φ=>QfH (JN (X:=xat X ca pn Φ) (ha pn Φ) (hr pn Φ) hs) fun σ H Q ⟨σ3,g,μ,R,p⟩=>Za (Qlj R p) fun x H1 ⟨d,g1,μ1,e1,R1,q1,p1⟩ =>
  Ju (Qj6 R1 p1) fun xs H2 ⟨ds,g2,μ2,e2,R2,q2,p2⟩=>p2 (x::xs) H2 μ2 .refl R2.g (.cons (q1.mono e2) q2)
theorem ZZ (ha:PE3 ca X a ma) (he:∀ whole,isTrue a X.env whole=(do let v ← whole; standAt a.pos; holding [v] (truthy v)):=by intro _; rfl):PT3 ca X a (Qh ma) :=
 fun pn Φ=>Qdq (Qjt (X:=xat X ca pn Φ) (ha pn Φ) he) fun σ H Q ⟨σ3,g,μ,R,p⟩=>Za (Qj4 R p) fun x H1 hQ=>by
  obtain⟨d,g1,μ1,e1,R1,q1,p1⟩:=hQ
  cases q1 with
  | bl b=>exact⟨b,rfl,p1 H1 μ1 .refl R1.g⟩
  | _=>exact p1.elim
theorem JQ {op:CmpOp} {r:R2} {f:D->D->G->Res D} (ho:∀ pn Φ,OpR (xat X ca pn Φ) (compareOp op) r) (hp:Jc X.K ca r f) (ha:PE3 ca X a ma) (hb:PE3 ca X b mb) (hm:behindInMarks op b=false):PT3 ca X (.Compare a [op] [b] pos) (Qh (mOp2 f ma mb)) :=
 fun pn Φ=>Qdq (Qir (ho pn Φ) (ha pn Φ) (hb pn Φ) hm) fun σ H Q hQ=>by
  obtain⟨σ3,g,μ,R,p⟩:=hQ
  have q:up X.K ca Φ (mOp2 f ma mb) σ H fun x H'=>∃ k,x=.bl k∧Q k H':=Za (Qj4 R p) fun x H1 hQ=>by
   obtain⟨d,g1,μ1,e1,R1,q1,p1⟩:=hQ
   cases q1 with
   | bl b=>exact⟨b,rfl,p1 H1 μ1 .refl R1.g⟩
   | _=>exact p1.elim
  exact Qd3 hp σ H _ q
theorem JH (ha:PT3 ca X a ta):PT3 ca X (.UnaryOp .Not a pos) (Je ta) :=
 fun pn Φ=>Qdq (Qjw (X:=xat X ca pn Φ) (ha pn Φ)) fun σ H Q ⟨σ3,g,μ,R,p⟩=>QaV (QfF R p) fun b H1 ⟨g1,μ1,e1,R1,p1⟩=>p1 H1 μ1 .refl R1.g
theorem JR (ha:PT3 ca X a ta):PW3 ca X (.BoolOp .And [a] pos) ta:=fun pn Φ=>Qih (X:=xat X ca pn Φ) (ha pn Φ)
theorem Jf (ha:PT3 ca X a ta):PW3 ca X (.BoolOp .Or [a] pos) ta:=fun pn Φ=>Qju (X:=xat X ca pn Φ) (ha pn Φ)
theorem Qbg (ha:PT3 ca X a ta) (hb:PW3 ca X (.BoolOp .And (b::rest) pos) tb):PW3 ca X (.BoolOp .And (a::b::rest) pos) (JO ta tb) :=
 fun pn Φ=>QfG (Qjv (X:=xat X ca pn Φ) (ha pn Φ) (hb pn Φ)) fun σ H Q ⟨σ3,g,μ,R,p⟩=>QaV (QfF R p) fun b H1 hQ=>by
  obtain⟨g1,μ1,e1,R1,p1⟩:=hQ
  cases b with
  | true=>rw [if_pos rfl] at p1 ⊢; exact⟨σ3,g1,μ1,R1,p1⟩
  | false=>rw [if_neg Bool.false_ne_true] at p1 ⊢; exact p1 H1 μ1 .refl R1.g
theorem QaK (ha:PT3 ca X a ta) (hb:PW3 ca X (.BoolOp .Or (b::rest) pos) tb):PW3 ca X (.BoolOp .Or (a::b::rest) pos) (mOrT ta tb) :=
 fun pn Φ=>QfG (Qk0 (X:=xat X ca pn Φ) (ha pn Φ) (hb pn Φ)) fun σ H Q ⟨σ3,g,μ,R,p⟩=>QaV (QfF R p) fun b H1 hQ=>by
  obtain⟨g1,μ1,e1,R1,p1⟩:=hQ
  cases b with
  | true=>rw [if_pos rfl] at p1 ⊢; exact p1 H1 μ1 .refl R1.g
  | false=>rw [if_neg Bool.false_ne_true] at p1 ⊢; exact⟨σ3,g1,μ1,R1,p1⟩
theorem r_w (h:PW3 ca X e ta):PT3 ca X e ta:=fun pn Φ=>(h pn Φ).pt
theorem Qj7 (ha:PE3 ca X a ma):PE3 ca X (.UnaryOp .Not a pos) (mNot ma) :=
 fun pn Φ=>Zo (Qjz (X:=xat X ca pn Φ) (ha pn Φ)) fun σ H Q ⟨σ3,g,μ,R,p⟩=>Za (JE R p) fun x H1 hQ=>by
  obtain⟨d,g1,μ1,e1,R1,q1,p1⟩:=hQ
  cases q1 with
  | bl b=>exact⟨b,rfl,p1 _ H1 μ1 .refl R1.g (.bl _)⟩
  | _=>exact p1.elim
theorem QcY {op:BoolOp} (ha:PE3 ca X a ma):PE3 ca X (.BoolOp op [a] pos) ma:=fun pn Φ=>Qjx (X:=xat X ca pn Φ) (ha pn Φ)
theorem Qbh (ha:PE3 ca X a ma) (hb:PE3 ca X (.BoolOp .And (b::rest) pos) mb):PE3 ca X (.BoolOp .And (a::b::rest) pos) (mAnd ma mb) :=
 fun pn Φ=>Zo (Qjy (X:=xat X ca pn Φ) (ha pn Φ) (hb pn Φ)) fun σ H Q ⟨σ3,g,μ,R,p⟩=>Za (JE R p) fun x H1 hQ=>by
  obtain⟨d,g1,μ1,e1,R1,q1,p1⟩:=hQ
  cases q1 with
  | bl b =>
   refine⟨b,rfl,?_⟩
   cases b with
   | true=>rw [if_pos rfl]; exact⟨σ3,g1,μ1,R1,p1⟩
   | false=>rw [if_neg Bool.false_ne_true]; exact p1 _ H1 μ1 .refl R1.g (.bl _)
  | _=>exact p1.elim
theorem QaL (hc:PT3 ca X c tc) (ha:PE3 ca X a ma) (hb:PE3 ca X b mb):PE3 ca X (.IfExp c a b pos) (mIfE tc ma mb) :=
 fun pn Φ=>Zo (QgY (X:=xat X ca pn Φ) (hc pn Φ) (ha pn Φ) (hb pn Φ)) fun σ H Q ⟨σ3,g,μ,R,p⟩=>QaV (Qj5 R p) fun b H1 hQ=>by
  obtain⟨g1,μ1,e1,R1,p1⟩:=hQ
  cases b with
  | true=>rw [if_pos rfl] at p1 ⊢; exact⟨σ3,g1,μ1,R1,p1⟩
  | false=>rw [if_neg Bool.false_ne_true] at p1 ⊢; exact⟨σ3,g1,μ1,R1,p1⟩
theorem Jg:SZ≤sizeLine:=by rw [sizeLine_eq]; decide
theorem Dens.sz {K:PySem.W.Frag} {μ:List Addr} {H:Hp} {vs:List V} {ds:List D} (h:Dens K μ H vs ds) (z:ds.length≤SZ):vs.length≤sizeLine:=by rw [h.length]; exact Nat.le_trans z Jg
theorem Yh {k:Nat} (h:PA3 ca X es mr):PE3 ca X (.Tuple es k pos) (mOpA pTup mr) :=
 fun pn Φ=>Zo (QhO (X:=xat X ca pn Φ) (h pn Φ)) fun σ H Q ⟨σ3,g,μ,R,p⟩=>Ju (QcW R p) fun xs H1 hQ=>by
  obtain⟨ds,g1,μ1,e1,R1,q1,p1⟩:=hQ
  unfold pTup at p1
  by_cases z:ds.length≤SZ
  ·rw [if_pos z] at p1
   exact⟨q1.sz z,fun t ht=>p1 _ _ μ1 (Q0 ht) (R1.g.new ht) (.tup (.of Qu) (q1.mono (Q0 ht)))⟩
  ·rw [if_neg z] at p1; exact p1.elim
theorem JS (h:PA3 ca X es mr):PE3 ca X (.List es pos) (mOpA newL mr) :=
 fun pn Φ=>Zo (QjS (X:=xat X ca pn Φ) (h pn Φ)) fun σ H Q ⟨σ3,g,μ,R,p⟩=>Ju (QcW R p) fun xs H1 hQ=>by
  obtain⟨ds,g1,μ1,e1,R1,q1,p1⟩:=hQ
  unfold newL at p1
  by_cases z:ds.length≤SZ
  ·rw [if_pos z] at p1
   refine⟨q1.sz z,fun t ht=>p1 _ _ (μ1++[t]) (QB ht) (R1.g.push ht ⟨xs,Qu,q1.mono (QB ht)⟩) (.ref ?_)⟩
   rw [← R1.g.len]; simp
  ·rw [if_neg z] at p1; exact p1.elim
end
end L3
end
section
namespace L3
open PySem PySem.Spec PyProof.Rows L2
section
variable {X:Cx} {ca:Nat->Addr} {pins:List (Addr×Obj)} {σ:L2.St} {H:Hp} {s:Shared} {a:Addr} {x:Xc} {E:Value->Shared->Prop}
theorem QhS {pn:List (Addr×Obj)} {Φ:XS} (I:Inv (xat X ca pn Φ) pins σ H s):Inv (xon X pn) pins σ H s:=(Inv.wish I fun _ _=>False)
theorem Qd4 {b:Addr} {H':Hp} (I:Inv X pins σ H s) (hb:s.heap.get? b=none) (hn:H' b=none):FpW X pins H' b:=by
 refine⟨hn,fun z=>?_,fun z=>?_,?_,fun x c e z=>?_,fun p hp z=>?_⟩
 ·obtain⟨m,⟨o,_,_,ho,_⟩,_⟩:=I.loc
  rw [z,ho] at hb; cases hb
 ·obtain⟨_,o,ho,_⟩:=I.funs.mem z
  rw [ho] at hb; cases hb
 ·by_cases hx:b∈X.ex
  ·exact .inl hx
  ·refine .inr ?_
   cases q:X.s₀.heap.get? b with
   | none=>rfl
   | some o =>
    obtain⟨o',e'⟩:=I.base.there b o q hx
    rw [e'] at hb; cases hb
 ·obtain⟨v,o,ho,_⟩:=I.cell x c e
  rw [z,hb] at ho; cases ho
 ·rw [← z,(I.pin p hp).1] at hb; cases hb
theorem QfK {H':Hp} {h':Heap} {g':Array GenState} {t':Nat} {d':Drawn} {ch:List Addr} (I:Inv X pins σ H s)
  (hch:∀ b∈ch,(b∈X.ex∨X.s₀.heap.get? b=none)∧b≠X.env.locals∧(∀ x c,X.env.cells.lookup x=some c->c≠b)∧∀ p∈X.pn++pins,p.1≠b)
  (keep:∀ b o,b≠X.env.locals->b∉X.fs->b∉ch->s.heap.get? b=some o->H b=none->h'.get? b=some o)
  (slot:∀ b o,b≠X.env.locals->b∈X.fs->b∉ch->s.heap.get? b=some o->H b=none->∃ sl,h'.get? b=some { o with slots:=sl }) (free:∀ b o,b∉ch->s.heap.get? b=some o->H b=none->H' b=none)
  (there:∀ b o,b∉ch->s.heap.get? b=some o->∃ o',h'.get? b=some o')
  (tups:∀ b xs,H b=some (.tup xs)->H' b=some (.tup xs)) (frzs:∀ b o u,H b=some (.frz o u)->H' b=some (.frz o u)) (tbls:∀ b ps,H b=some (.tbl ps)->∃ more,H' b=some (.tbl (ps++more)))
  (ns:∀ m,s.heap.Ns X.env.locals m->h'.Ns X.env.locals m) (hok:HOk X.prog X.w H' h') (hg:AllBare g') :
  Inv X pins σ H' { s with heap:=h',gens:=g',drawn:=d',toks:=t' }:=by
 have neL:∀ b o,X.s₀.heap.get? b=some o->b≠X.env.locals:=fun b o e=>Nat.ne_of_lt (Nat.lt_of_lt_of_le (Heap.lt_size e) I.ok.above)
 have neC:∀ b o,X.s₀.heap.get? b=some o->b∉X.ex->b∉ch:=fun b o e hx hb=>by
  rcases(hch b hb).1 with z | z
  ·exact hx z
  ·rw [z] at e; cases e
 have cellK:∀ x c,X.env.cells.lookup x=some c->∀ v,s.heap.IsCell c v->h'.IsCell c v:=fun x c e v hQ=>by
  obtain⟨o,ho,hd⟩:=hQ
  have nch:c∉ch:=fun z=>(hch c z).2.2.1 x c e rfl
  by_cases hc:c∈X.fs
  ·obtain⟨sl,q⟩:=slot c o (I.cne x c e) hc nch ho (I.freeC x c e)
   exact⟨_,q,hd⟩
  ·exact⟨o,keep c o (I.cne x c e) hc nch ho (I.freeC x c e),hd⟩
 refine⟨I.ok,I.os,hg,⟨fun b o e n hb hx=>?_,fun b o e n hb hx=>?_,fun b o e n hx=>?_,fun b o e hx=>?_,fun b xs e=>tups b xs (I.base.tups b xs e),fun b o xs e=>frzs b o xs (I.base.frzs b o xs e),fun b ps e=>?_⟩,?_,fun x c e=>?_,?_,fun x c e=>?_,fun p hp=>?_,hok,I.len⟩
 ·exact keep b o (neL b o e) hb (neC b o e hx) (I.base.keep b o e n hb hx) (I.base.free b o e n hx)
 ·obtain⟨sl,e1⟩:=I.base.slot b o e n hb hx
  obtain⟨sl',e2⟩:=slot b _ (neL b o e) hb (neC b o e hx) e1 (I.base.free b o e n hx)
  exact⟨sl',e2⟩
 ·obtain⟨o',e1⟩:=I.base.there b o e hx
  exact free b o' (neC b o e hx) e1 (I.base.free b o e n hx)
 ·obtain⟨o',e1⟩:=I.base.there b o e hx
  exact there b o' (neC b o e hx) e1
 ·obtain⟨m1,e1⟩:=I.base.tbls b ps e
  obtain⟨m2,e2⟩:=tbls b _ e1
  exact⟨m1++m2,by rw [e2,Array.append_assoc]⟩
 ·obtain⟨m,hn,hl⟩:=I.loc
  refine⟨m,ns m hn,fun i x v e1 e2 e3=>?_⟩
  obtain⟨u,r,l⟩:=hl i x v e1 e2 e3
  refine⟨u,r,?_⟩
  rcases l with l | ⟨k,c,e,z⟩
  ·exact .inl l
  ·exact .inr ⟨k,c,e,cellK x c e _ z⟩
 ·obtain⟨v,z⟩:=I.cell x c e
  exact⟨v,cellK x c e v z⟩
 ·obtain⟨m,⟨o,_,_,ho,_⟩,_⟩:=I.loc
  exact free _ o (fun z=>(hch _ z).2.1 rfl) ho I.free
 ·obtain⟨v,o,ho,hd⟩:=I.cell x c e
  exact free c o (fun z=>(hch c z).2.2.1 x c e rfl) ho (I.freeC x c e)
 ·obtain⟨e,n,ne,nf,d⟩:=I.pin p hp
  have nch:p.1∉ch:=fun z=>(hch p.1 z).2.2.2 p hp rfl
  exact⟨keep p.1 p.2 ne nf nch e n,free p.1 p.2 nch e n,ne,nf,d⟩
theorem Qd5 {ch:List Addr} {h':Heap} (I:Inv X pins σ H s) (hch:∀ b∈ch,FpW X pins H b) (keep:∀ b o,b∉ch->b≠X.env.locals->b∉X.fs->s.heap.get? b=some o->h'.get? b=some o)
  (slot:∀ b o,b∉ch->s.heap.get? b=some o->∃ sl,h'.get? b=some { o with slots:=sl }):Inv X pins σ H { s with heap:=h' }:=by
 have nl:X.env.locals∉ch:=fun z=>(hch _ z).2.1 rfl
 have nt:∀ b v,H b=some v->b∉ch:=fun b v e z=>by rw [(hch b z).1] at e; cases e
 have nf:∀ b v,H b=some v->b∉X.fs:=fun b v e z=>by
  obtain⟨_,o,ho,_⟩:=I.ok.funs.mem z
  have:=I.base.free b o ho (I.ok.frf b z) fun q=>I.ok.exfs b q z
  rw [this] at e; cases e
 have nL:∀ b v,H b=some v->b≠X.env.locals:=fun b v e z=>by rw [z,I.free] at e; cases e
 refine QfK (h':=h') (H':=H) (g':=s.gens) (t':=s.toks) (d':=s.drawn) (ch:=ch) I (fun b hb=>⟨(hch b hb).2.2.2.1,(hch b hb).2.1,(hch b hb).2.2.2.2.1,(hch b hb).2.2.2.2.2⟩) (fun b o h1 h2 h3 e _=>keep b o h3 h1 h2 e) (fun b o _ _ h3 e _=>slot b o h3 e)
  (fun b o _ _ n=>n) (fun b o h e=>let ⟨sl,q⟩:=slot b o h e; ⟨_,q⟩) (fun b v e=>e) (fun b o v e=>e) (fun b ps e=>⟨#[],by rw [e]; simp⟩) (fun m hm=>?_) (fun b v e=>?_) I.bare
 ·obtain⟨o,es,ep,ho,rr⟩:=hm
  obtain⟨sl,q⟩:=slot _ o nl ho
  exact⟨_,es,ep,q,rr⟩
 ·refine(I.hok b v e).stay (fun c' v' hc' q=>?_) (fun c' q=>q) fun c' xs' q=>q
  rcases hc' with rfl | hc'
  ·exact keep _ _ (nt _ _ e) (nL _ _ e) (nf _ _ e) q
  ·exact keep _ _ (nt _ _ hc') (nL _ _ hc') (nf _ _ hc') q
noncomputable def FlN (X:Cx) (ca:Nat->Addr) (a:Addr) (x:Xc) (H:Hp) (h:Heap):Prop :=
 FpW X [] H a∧x.2=none∧∃ oe vs T oT ts,h.get? a=some oe∧XOb ca x oe∧oe.data=.fields vs∧vs[1]?=some (.ref T)∧T≠a∧FpW X [] H T∧h.get? T=some oT∧oT.data=.fields ts∧ts[3]?=some (rawInt X.env.locals)
noncomputable def FlT (X:Cx) (ca:Nat->Addr) (a:Addr) (x:Xc) (H:Hp) (h:Heap):Prop :=
 FpW X [] H a∧x.2=none∧∃ oe vs T oT ts,h.get? a=some oe∧XOb ca x oe∧oe.data=.fields vs∧vs[1]?=some (.ref T)∧T≠a∧FpW X [] H T∧h.get? T=some oT∧oT.data=.fields ts∧3<ts.size
theorem FlN.t {h:Heap} (f:FlN X ca a x H h):FlT X ca a x H h:=by
 obtain⟨f1,f2,oe,vs,T,oT,ts,e1,e2,e3,e4,e5,e6,e7,e8,e9⟩:=f
 exact⟨f1,f2,oe,vs,T,oT,ts,e1,e2,e3,e4,e5,e6,e7,e8,(Array.getElem?_eq_some_iff.mp e9).1⟩
theorem FlN.fl {h:Heap} (f:FlN X ca a x H h):Fl X ca a x H h:=by
 obtain⟨f1,f2,oe,vs,T,oT,ts,e1,e2,e3,e4,e5,e6,e7,e8,e9⟩:=f
 exact⟨f1,f2,oe,vs,e1,e2,e3,(Array.getElem?_eq_some_iff.mp e4).1,.inr ⟨T,oT,ts,e4,e5,e6,e7,e8,(Array.getElem?_eq_some_iff.mp e9).1,.inr e9⟩⟩
theorem Qb3 {h:Heap} {b:Addr} {o:Obj} {ts:Array Value} (i:Nat) (v:Value) (e:h.get? b=some o) (d:o.data=.fields ts) :
  (h.update b (Obj.mapFields (·.setIfInBounds i v))).get? b=some (o.mapFields (·.setIfInBounds i v))∧(o.mapFields (·.setIfInBounds i v)).data=.fields (ts.setIfInBounds i v)∧(o.mapFields (·.setIfInBounds i v)).cls=o.cls :=
 ⟨Heap.get?_update_self _ e (Obj.isFreed_of_fields (Obj.data_mapFields d _)),Obj.data_mapFields d _,Obj.cls_mapFields _ _⟩
theorem Qd6 {base:Heap} {env:Env} {outer:List Env} {L:Addr} {oe:Obj} {vs:Array Value} {head:Value} {hn:Bool} {M:Model} {A:Around} {Q:Unit->Shared->Prop} (hfr:A.frames=some (env::outer)) (hl:s.heap.FunFrames base (env::outer)) (hf:env.frame=some L)
  (he:s.heap.get? a=some oe) (hd:oe.data=.fields vs) (hsz:1<vs.size) (ha:a∉(env::outer).filterMap (·.frame))
  (k:∀ h₁ (cells:Array Value),Heap.SlotsOnly ((env::outer).filterMap (·.frame)) s.heap h₁->cells[3]?=some (rawInt L) ->
   Q () { s with heap:=(h₁.push { cls:=.type "traceback",dict:=none,data:=.fields cells }).update a (Obj.mapFields (·.setIfInBounds 1 (.ref h₁.objs.size))) }) :
  wpAny M A (do let fv ← frameOf env; let pl ← entryPlaceOf L hn; let b ← EntryCells.newEntry head fv .none (rawInt L) .none pl; setField (.ref a) 1 b) Q E s:=by
 refine wpAny_bind (wpAny_frameOf_fun hfr hl hf fun h₁ so=>wpAny_bind (wpAny_entryPlaceOf fun pl hpl=>?_))
 unfold EntryCells.newEntry newFields
 refine wpAny_bind (wpAny_newObj_type ?_ (hpl.sizeOk5 _ _ _ _ _))
 have e1:h₁.get? a=some oe:=(so.2.1 a ha).trans he
 refine wpAny_setField (Heap.get?_push_of_some _ e1) hd hsz (k h₁ _ so ?_)
 first
  | (simp; done)
  | (rcases hpl with rfl | ⟨_,_,_,_,_,_,_,rfl⟩ <;> simp)
theorem Qdr {M:Model} {Q:Unit->Shared->Prop} (I:Inv X [] σ H s) (hk:X.stack=X.env::X.outer) (hf:X.env.frame=some X.env.locals) (fl:Fl X ca a x H s.heap)
  (k:∀ h',Inv X [] σ H { s with heap:=h' }->FlN X ca a x H h'->Q () { s with heap:=h' }):wpAny M X.A (noteFrame (.ref a) X.env) Q E s:=by
 obtain⟨fp,ln,oe,vs,he,hc,hd,hsz,hv⟩:=fl
 have hfr:X.A.frames=some (X.env::X.outer):=by rw [← hk]; exact I.ok.frames
 have hst:s.heap.FunFrames X.base (X.env::X.outer):=by rw [← hk]; exact I.stack
 have hfs:(X.env::X.outer).filterMap (·.frame)=X.env.locals::X.fs:=by rw [List.filterMap_cons,hf]; rfl
 have ha:a∉(X.env::X.outer).filterMap (·.frame):=by
  rw [hfs]
  intro z
  rcases List.mem_cons.mp z with z | z
  ·exact fp.2.1 z
  ·exact fp.2.2.1 z
 -- an entry is laid over a heap that differs from s at ch alone
 have fin:∀(h0 h₁:Heap) (cells:Array Value) (ch:List Addr),(∀ b∈ch,FpW X [] H b)->(∀ b o,b∉ch->s.heap.get? b=some o->h0.get? b=some o)->h0.objs.size=s.heap.objs.size->h0.get? a=some oe ->
   Heap.SlotsOnly ((X.env::X.outer).filterMap (·.frame)) h0 h₁->cells[3]?=some (rawInt X.env.locals) ->
   Q () { s with heap:=(h₁.push { cls:=.type "traceback",dict:=none,data:=.fields cells }).update a (Obj.mapFields (·.setIfInBounds 1 (.ref h₁.objs.size))) }:=by
  intro h0 h₁ cells ch hch hk0 hz he0 so hcl
  have e1:h₁.get? a=some oe:=(so.2.1 a ha).trans he0
  obtain⟨u1,u2,u3⟩:=Qb3 1 (.ref h₁.objs.size) (Heap.get?_push_of_some { cls:=.type "traceback",dict:=none,data:=.fields cells } e1) hd
  have hTa:h₁.objs.size≠a:=Nat.ne_of_gt (Heap.lt_size e1)
  have oth:∀ b o,b≠a->h₁.get? b=some o->((h₁.push { cls:=.type "traceback",dict:=none,data:=.fields cells }).update a (Obj.mapFields (·.setIfInBounds 1 (.ref h₁.objs.size)))).get? b=some o:=fun b o hb e =>
   (Heap.get?_update_other _ _ (Ne.symm hb)).trans (Heap.get?_push_of_some _ e)
  refine k _ (Qd5 (ch:=a::ch) I (fun b hb=>?_) (fun b o h1 h2 h3 e=>?_) fun b o h1 e=>?_) ⟨fp,ln,_,_,h₁.objs.size,_,cells,u1,hc.map _,u2,by simp [hsz],hTa,?_,(Heap.get?_update_other _ _ (Ne.symm hTa)).trans (Heap.get?_push_size _ rfl),rfl,hcl⟩
  ·rcases List.mem_cons.mp hb with e | e
   ·rw [e]; exact fp
   ·exact hch b e
  ·refine oth b o (fun z=>h1 (by rw [z]; exact List.mem_cons_self)) ?_
   rw [so.2.1 b (by rw [hfs]; intro z; rcases List.mem_cons.mp z with z | z; (· exact h2 z); exact h3 z)]
   exact hk0 b o (fun z=>h1 (List.mem_cons_of_mem _ z)) e
  ·obtain⟨sl,q⟩:=so.2.2 b o (hk0 b o (fun z=>h1 (List.mem_cons_of_mem _ z)) e)
   exact⟨sl,oth b _ (fun z=>h1 (by rw [z]; exact List.mem_cons_self)) q⟩
  ·refine Qd4 I (Heap.get?_none_of_le ?_) (I.hok.fresh ?_) <;> rw [so.1,hz] <;> exact Nat.le_refl _
 unfold noteFrame
 simp only [hf]
 rcases hv with hv | ⟨T,oT,ts,hv,hTa,fT,hT,hdT,hs3,h3⟩
 ·refine wpAny_bind (wpAny_field he hd hv ?_)
  rw [if_neg (by decide)]
  exact Qd6 hfr hst hf he hd hsz ha fun h₁ cells so hcl=>fin s.heap h₁ cells [] (by simp) (fun _ _ _ e=>e) rfl he so hcl
 ·refine wpAny_bind (wpAny_field he hd hv ?_)
  rw [if_pos (show(Value.ref T != Value.none)=true from by simp)]
  rcases h3 with h3 | h3
  ·refine wpAny_bind (wpAny_field hT hdT h3 ?_)
   rw [if_neg (show ¬ ((Value.none == rawInt X.env.locals)=true) from by simp [rawInt])]
   refine wpAny_bind (wpAny_setField hT hdT hs3 ?_)
   have oth:∀ b o,b≠T->s.heap.get? b=some o->(s.heap.update T (Obj.mapFields (·.setIfInBounds 3 Value.none))).get? b=some o:=fun b o hb e=>(Heap.get?_update_other _ _ (Ne.symm hb)).trans e
   have kp:∀ b o,s.heap.get? b=some o->(∀ vs,o.data≠.fields vs)->(s.heap.update T (Obj.mapFields (·.setIfInBounds 3 Value.none))).get? b=some o:=fun b o e n=>oth b o (fun z=>by rw [z,hT] at e; cases e; exact n _ hdT) e
   refine Qd6 (s:={ s with heap:=s.heap.update T (Obj.mapFields (·.setIfInBounds 3 Value.none)) }) hfr (hst.of_keeps fun b o e n=>⟨o,kp b o e n,rfl⟩) hf (oth a oe (Ne.symm hTa) he) hd hsz ha fun h₁ cells so hcl=>?_
   exact fin _ h₁ cells [T] (fun b hb=>by rw [List.mem_singleton.mp hb]; exact fT) (fun b o hb e=>oth b o (fun z=>hb (by simp [z])) e) (Heap.size_after_update ..) (oth a oe (Ne.symm hTa) he) so hcl
  ·refine wpAny_bind (wpAny_field hT hdT h3 ?_)
   rw [if_pos (show(rawInt X.env.locals == rawInt X.env.locals)=true from by simp)]
   exact wpAny_pure (k s.heap I ⟨fp,ln,oe,vs,T,oT,ts,he,hc,hd,hv,hTa,fT,hT,hdT,h3⟩)
theorem Jh {M:Model} {A:Around} {Q:Unit->Shared->Prop} {fo:Option Addr} (I:Inv X [] σ H s) (fl:FlT X ca a x H s.heap) (k:∀ h' T oT ts oe vs,Inv X [] σ H { s with heap:=h' }->h'.get? a=some oe->XOb ca x oe->oe.data=.fields vs->vs[1]?=some (.ref T)->T≠a->FpW X [] H T ->
      h'.get? T=some oT->oT.data=.fields ts->3<ts.size->ts[3]?=some (fo.elim Value.none fun f=>rawInt f)->Q () { s with heap:=h' }):wpAny M A (setFlight (.ref a) fo) Q E s:=by
  obtain⟨fp,ln,oe,vs,T,oT,ts,he,hc,hd,hv,hTa,fT,hT,hdT,hs3⟩:=fl
  unfold setFlight
  refine wpAny_bind (wpAny_field he hd hv ?_)
  rw [if_pos (show(Value.ref T != Value.none)=true from by simp)]
  have oth:∀ b o,b≠T->s.heap.get? b=some o->(s.heap.update T (Obj.mapFields (·.setIfInBounds 3 (fo.elim Value.none fun f=>rawInt f)))).get? b=some o:=fun b o hb e=>(Heap.get?_update_other _ _ (Ne.symm hb)).trans e
  obtain⟨u1,u2,u3⟩:=Qb3 3 (fo.elim Value.none fun f=>rawInt f) hT hdT
  refine wpAny_setField hT hdT hs3 (k _ T _ _ oe vs (Qd5 (ch:=[T]) I (fun b hb=>by rw [List.mem_singleton.mp hb]; exact fT) (fun b o h1 _ _ e=>oth b o (fun z=>h1 (by simp [z])) e) fun b o h1 e=>⟨o.slots,oth b o (fun z=>h1 (by simp [z])) e⟩)
    (oth a oe (Ne.symm hTa) he) hc hd hv hTa fT u1 u2 (by simpa using hs3) (by simp [hs3]))
theorem QhT (hk:X.stack=X.env::X.outer) (hf:X.env.frame=some X.env.locals) (pn:List (Addr×Obj)) (Φ:XS):PassesOwn (model X.prog X.w) X.A X.env (xat X ca pn Φ).xe:=by
 rintro v s ⟨a,x,σ,H,rfl,I,fl,q⟩
 refine Qdr (X:=xon X pn) I hk hf fl fun h1 I1 f1=>?_
 unfold cameBackBy
 obtain⟨fp,ln,oe,vs,T,oT,ts,he,hc,hd,hv,hTa,fT,hT,hdT,h3⟩:=id f1
 refine wpAny_bind (wpAny_field he hd hv ?_)
 rw [if_neg (show ¬ ((Value.ref T == Value.none)=true) from by simp)]
 refine Jh (X:=xon X pn) (fo:=X.env.frame) I1 f1.t fun h2 T oT ts oe vs I2 a1 a2 a3 a4 a5 a6 a7 a8 a9 a10=>?_
 rw [hf] at a10
 exact⟨a,x,σ,H,rfl,I2,FlN.fl ⟨fp,ln,oe,vs,T,oT,ts,a1,a2,a3,a4,a5,a6,a7,a8,a10⟩,q⟩
end
noncomputable def CXW (P:Program) (w:World) (ca:Nat->Addr):CXT:=fun outer H s E v s'=>∃(a:Addr) (x:Xc) (H':Hp),v=.ref a∧s'.os=s.os∧AllBare s'.gens∧Un (frs outer) [] H H' s.heap s'.heap∧HOk P w H' s'.heap∧x.2=none ∧
 (∃ oe vs T oT ts,s.heap.get? a=none∧H' a=none∧s'.heap.get? a=some oe∧XOb ca x oe∧oe.data=.fields vs∧vs[1]?=some (.ref T)∧T≠a∧s.heap.get? T=none∧H' T=none∧s'.heap.get? T=some oT∧oT.data=.fields ts∧ts[3]?=some .none) ∧
 E (.int x.1 0) x.2 H'
section
variable {P:Program} {w:World} {K:PySem.W.Frag} {mg:Str->Option Value} {base:Heap} {ca:Nat->Addr}
theorem Qhc {N:List Str} {qual:Str} {scope:Scope} {f:Addr} {cd:Value} {A:Around} {outer:List Env} {s s':Shared} {H:Hp} {E:XK} {v:Value}
  (h:XE (xon (cxOf (CXW P w ca) P w K mg base N qual scope f cd A outer s H E) []) ca (fun x _ H'=>E (.int x.1 0) x.2 H') v s'):(cxOf (CXW P w ca) P w K mg base N qual scope f cd A outer s H E).xe v s':=by
 obtain⟨a,x,σ,H',rfl,I,fl,q⟩:=h
 show wpAny _ _ (leaving _ (.ref a)) _ _ s'
 unfold leaving
 refine wpAny_bind (Qdr I rfl rfl fl fun h1 I1 f1=>?_)
 obtain⟨fp,ln,_⟩:=id f1
 refine Jh (fo:=none) I1 f1.t fun h2 T oT ts oe vs I2 a1 a2 a3 a4 a5 a6 a7 a8 a9 a10=>?_
 refine⟨a,x,H',rfl,I2.os,I2.bare,I2.base,I2.hok,ln,⟨oe,vs,T,oT,ts,?_,fp.1,a1,a2,a3,a4,a5,?_,a6.1,a7,a8,a10⟩,q⟩
 ·rcases fp.2.2.2.1 with z | z
  ·exact absurd (show a∈([]:List Addr) from z) (by simp)
  ·exact z
 ·rcases a6.2.2.2.1 with z | z
  ·exact absurd (show T∈([]:List Addr) from z) (by simp)
  ·exact z
end
section
variable {X:Cx} {ca:Nat->Addr} {pn:List (Addr×Obj)} {Φ:XS}
theorem QfL {pins:List (Addr×Obj)} {σ:L2.St} {H:Hp} {s s':Shared} {v:Value} (I:Inv (xat X ca pn Φ) pins σ H s) (h:CXW X.prog X.w ca X.stack H s (fun c l H'=>∀ x:Xc,c=.int x.1 0->l=x.2->Φ x σ H') v s'):(xat X ca pn Φ).xe v s':=by
 obtain⟨a,x,H',rfl,os,bare,un,hok,ln,⟨oe,vs,T,oT,ts,e1,e2,e3,e4,e5,e6,e7,e8,e9,e10,e11,e12⟩,q⟩:=h
 have I0:Inv (xon X pn) [] σ H s:=(QhS I).pins_of fun p hp=>absurd hp (by simp)
 have I1:Inv (xon X pn) [] σ H' s':=Inv.call' (ch:=[]) I0 os un hok bare fun b z=>absurd z (by simp)
 refine⟨a,x,σ,H',rfl,I1,⟨Qd4 I0 e1 e2,ln,oe,vs,e3,e4,e5,(Array.getElem?_eq_some_iff.mp e6).1,.inr ⟨T,oT,ts,e6,e7,Qd4 I0 e8 e9,e10,e11,(Array.getElem?_eq_some_iff.mp e12).1,.inl e12⟩⟩,q x rfl rfl⟩
end
end L3
end
section
namespace L3
open PySem PySem.Spec PyProof.Rows L2
section
variable {X:Cx} {ca:Nat->Addr} {a b c e:Expr} {st:Stmt} {sts rest:List Stmt} {ma mb me:ME} {tc:MT} {m m':MS} {pos:Pos}
theorem Qv:PSs3 ca X [] Qy:=fun pn Φ=>Qd2 (Qfm (X:=xat X ca pn Φ)) fun _ σ H ⟨_,_,μ,R,p⟩=>p σ H μ .refl R
theorem Qj8 {K:PySem.W.Frag} {Φ:XS} (E:Ends) (σ:L2.St) (H:Hp) (h:upS K ca Φ (mSeq m m') E σ H):tSeq (upS K ca Φ m) (upS K ca Φ m') E σ H:=by
 obtain⟨σ3,g,μ,R,p⟩:=h
 refine⟨σ3,g,μ,R,?_⟩
 unfold mSeq at p
 cases hm:m σ3 g with
 | nx σ1 g1 =>
  rw [hm] at p
  exact fun σ' H' μ' e' R'=>⟨σ1,g1,μ',R',PostS.go e' p⟩
 | rt d g1=>rw [hm] at p; exact p
 | bk _ _=>rw [hm] at p; exact p
 | ct _ _=>rw [hm] at p; exact p
 | raise _ _ _=>rw [hm] at p; exact p
 | stuck=>rw [hm] at p; exact p
theorem Qc (h1:PS3 ca X st m) (h2:PSs3 ca X rest m'):PSs3 ca X (st::rest) (mSeq m m'):=fun pn Φ=>Qd2 (QgZ (X:=xat X ca pn Φ) (h1 pn Φ) (h2 pn Φ)) Qj8
theorem Qi (h1:PS3 ca X st m):PSs3 ca X [st] m:=fun pn Φ=>Qii (X:=xat X ca pn Φ) (h1 pn Φ)
theorem Yi:PS3 ca X st Yt:=fun pn Φ=>Z4 (Qg0 (X:=xat X ca pn Φ)) fun _ _ _ ⟨_,_,_,_,p⟩=>p
theorem Z0 (he:PE3 ca X e me) (hs:swapsWith e none pos.line X.env=pure false:=by rfl):PS3 ca X (.Expr e pos) (ZE me) :=
 fun pn Φ=>Z4 (Qij (X:=xat X ca pn Φ) (he pn Φ) hs) fun E σ H ⟨σ3,g,μ,R,p⟩=>⟨σ3,g,μ,R,by
  unfold ZE at p
  cases hm:me σ3 g with
  | ok d g1=>rw [hm] at p; exact fun v H' μ' e' r' _=>p σ H' μ' e' (R.go e' r')
  | raise _ _=>rw [hm] at p; exact RaP.stmt R p
  | stuck=>rw [hm] at p; exact p⟩
theorem QH (he:PE3 ca X e me):PS3 ca X (.Return (some e) pos) (mRet me) :=
 fun pn Φ=>Z4 (QjA (X:=xat X ca pn Φ) (he pn Φ)) fun E σ H ⟨σ3,g,μ,R,p⟩=>⟨σ3,g,μ,R,by
  unfold mRet at p
  cases hm:me σ3 g with
  | ok d g1=>rw [hm] at p; exact p
  | raise _ _=>rw [hm] at p; exact RaP.stmt R p
  | stuck=>rw [hm] at p; exact p⟩
theorem Qj9:PS3 ca X (.Return none pos) QiC:=fun pn Φ=>Z4 (Qik (X:=xat X ca pn Φ)) fun _ σ H ⟨_,_,μ,R,p⟩=>p .non H μ .refl R.g .non
theorem r_if {sa sb:List Stmt} (hc:PT3 ca X c tc) (ha:PSs3 ca X sa m) (hb:PSs3 ca X sb m'):PS3 ca X (.If c sa sb pos) (mIf tc m m') :=
 fun pn Φ=>Z4 (Qk6 (X:=xat X ca pn Φ) (hc pn Φ) (ha pn Φ) (hb pn Φ)) fun E σ H ⟨σ3,g,μ,R,p⟩=>⟨σ3,g,μ,R,by
  unfold mIf at p
  cases hm:tc σ3 g with
  | ok d g1 =>
   rw [hm] at p
   cases d with
   | true=>exact fun H' μ' e' r'=>by show(if true=true then _ else _); rw [if_pos rfl]; exact⟨σ3,g1,μ',R.go e' r',PostS.go e' (by simpa using p)⟩
   | false=>exact fun H' μ' e' r'=>by show(if false=true then _ else _); rw [if_neg Bool.false_ne_true]; exact⟨σ3,g1,μ',R.go e' r',PostS.go e' (by simpa using p)⟩
  | raise _ _=>rw [hm] at p; exact RaP.stmt R p
  | stuck=>rw [hm] at p; exact p⟩
noncomputable def upG (K:PySem.W.Frag) (ca:Nat->Addr) (f:MG):TG:=fun v σ H Q=>∃ σ3 g μ d σ3',Rep K ca μ σ3 g σ H∧Den K μ H v d∧f d σ3=some σ3'∧∀ σ',Rep K ca μ σ3' g σ' H->Q σ' H
noncomputable def PG3 (ca:Nat->Addr) (X:Cx) (tg:Expr) (f:MG):Prop:=∀ pn Φ,PG (xat X ca pn Φ) tg (upG X.K ca f)
theorem QfM {X:Cx} {tg:Expr} {t t':TG} (h:PG X tg t) (i:∀ v σ H Q,t' v σ H Q->t v σ H Q):PG X tg t':=fun pins s σ H x u Q I r q=>h pins s σ H x u Q I r (i x σ H Q q)
theorem Rep.set {K:PySem.W.Frag} {μ:List Addr} {σ3:S3} {g:G} {σ:L2.St} {H:Hp} {v:V} {d:D} (R:Rep K ca μ σ3 g σ H) (h:Den K μ H v d) (i:Nat):Rep K ca μ (σ3.set i (some d)) g (σ.set i (some v)) H:=by
 refine⟨R.g,by rw [List.length_set,List.length_set,R.len],fun j x hx=>?_⟩
 by_cases e:j=i
 ·subst e
  have hl:j<σ3.length:=by
   have:=(List.getElem?_eq_some_iff.mp hx).1
   simpa using this
  rw [List.getElem?_set_self hl] at hx
  cases hx
  exact⟨v,by rw [List.getElem?_set_self (by rw [R.len]; exact hl)],h⟩
 ·rw [List.getElem?_set_ne (Ne.symm e)] at hx
  obtain⟨w,h1,h2⟩:=R.st j x hx
  exact⟨w,by rw [List.getElem?_set_ne (Ne.symm e)]; exact h1,h2⟩
theorem QL (i:Nat) {x:Str} (hN:X.N.Nodup) (hi:X.N[i]?=some x:=by rfl) (hx:Loc X.env.scope x:=by first | exact Or.inl rfl | exact Or.inr rfl)
  (hf:X.fn x=true∨X.env.scope.names.lookup x=some .local:=by first | exact .inl rfl | exact .inr rfl):PG3 ca X (.Name x pos) (gSet i) :=
 fun pn Φ=>QfM (Qil (X:=xat X ca pn Φ) hN hi hx hf) fun v σ H Q hQ=>by
  obtain⟨σ3,g,μ,d,σ3',R,q,e,k⟩:=hQ
  cases e
  exact k _ (R.set q i)
noncomputable def upGs (K:PySem.W.Frag) (ca:Nat->Addr) (fs:List MG):TGs:=fun vs σ H Q=>∃ σ3 g μ ds σ3',Rep K ca μ σ3 g σ H∧Dens K μ H vs ds∧Qch fs ds σ3=some σ3'∧∀ σ',Rep K ca μ σ3' g σ' H->Q σ' H
noncomputable def PGs3 (ca:Nat->Addr) (X:Cx) (tgs:List Expr) (fs:List MG):Prop:=∀ pn Φ,PGs (xat X ca pn Φ) tgs (upGs X.K ca fs)
theorem Qd7 {X:Cx} {tg:List Expr} {t t':TGs} (h:PGs X tg t) (i:∀ v σ H Q,t' v σ H Q->t v σ H Q):PGs X tg t':=fun pins s σ H xs us Q I r q=>h pins s σ H xs us Q I r (i xs σ H Q q)
theorem QaD:PGs3 ca X [] []:=fun pn Φ=>Qd7 (Qim (X:=xat X ca pn Φ)) fun vs σ H Q hQ=>by
 obtain⟨σ3,g,μ,ds,σ3',R,q,e,k⟩:=hQ
 cases q with
 | nil=>cases e; exact⟨rfl,k _ R⟩
 | cons _ _=>cases e
theorem Q1 {es:List Expr} {f:MG} {fs:List MG} (h1:PG3 ca X e f) (h2:PGs3 ca X es fs)
  (hs:(assignEach (e::es) X.env).map (·.2)=assign e X.env::(assignEach es X.env).map (·.2):=by rfl):PGs3 ca X (e::es) (f::fs) :=
 fun pn Φ=>Qd7 (Qg1 (X:=xat X ca pn Φ) (h1 pn Φ) (h2 pn Φ) hs) fun vs σ H Q hQ=>by
  obtain⟨σ3,g,μ,ds,σ3',R,q,e,k⟩:=hQ
  cases q with
  | nil=>cases e
  | @cons v d vs ds q1 q2 =>
   unfold Qch at e
   cases hf:f d σ3 with
   | none=>rw [hf] at e; cases e
   | some σ4 =>
    rw [hf] at e
    exact⟨v,vs,rfl,σ3,g,μ,d,σ4,R,q1,hf,fun σ' R'=>⟨σ4,g,μ,ds,σ3',R',q2,e,k⟩⟩
theorem QcZ:∀ {fs:List MG} {ds:List D} {σ σ':S3},Qch fs ds σ=some σ'->ds.length=fs.length
 | [],[],_,_,_=>rfl
 | [],_::_,_,_,h=>by cases h
 | _::_,[],_,_,h=>by cases h
 | f::fs,d::ds,σ,σ',h=>by
  unfold Qch at h
  cases hf:f d σ with
  | none=>rw [hf] at h; cases h
  | some σ4 =>
   rw [hf] at h
   rw [List.length_cons,List.length_cons,QcZ (fs:=fs) h]
theorem QaE {es:List Expr} {k:Nat} {fs:List MG} (hc:X.calm=true) (h:PGs3 ca X es fs) (hn:(assignEach es X.env).length=fs.length:=by rfl)
  (hst:(assignEach es X.env).findIdx? (·.1)=none:=by rfl):PG3 ca X (.Tuple es k pos) (YJ fs) :=
 fun pn Φ=>QfM (QjD (X:=xat X ca pn Φ) hc (h pn Φ) hn hst) fun v σ H Q hQ=>by
  obtain⟨σ3,g,μ,d,σ3',R,q,e,kk⟩:=hQ
  cases q with
  | @tup a vs ds ht hs =>
   exact⟨a,vs,rfl,ht,hs.length.trans (QcZ e),σ3,g,μ,ds,σ3',R,hs,e,kk⟩
  | _=>cases e
theorem Qka {K:PySem.W.Frag} {Φ:XS} {f:MG} (E:Ends) (σ:L2.St) (H:Hp) (h:upS K ca Φ (mAsg f me) E σ H):tAsg (up K ca Φ me) (upG K ca f) E σ H:=by
 obtain⟨σ3,g,μ,R,p⟩:=h
 refine⟨σ3,g,μ,R,?_⟩
 unfold mAsg at p
 cases hm:me σ3 g with
 | ok d g1 =>
  rw [hm] at p
  dsimp only at p
  intro v H' μ' e' r' q'
  cases hf:f d σ3 with
  | none=>rw [hf] at p; exact p.elim
  | some σ4 =>
   rw [hf] at p
   exact⟨σ3,g1,μ',d,σ4,R.go e' r',q',hf,fun σ' R'=>p σ' H' μ' e' R'⟩
 | raise _ _=>rw [hm] at p; exact RaP.stmt R p
 | stuck=>rw [hm] at p; exact p
theorem QfN {tg:Expr} {f:MG} (he:PE3 ca X e me) (hg:PG3 ca X tg f) (hs:swapsWithSole [tg] e pos.line X.env=pure false:=by rfl) (hw:swappedStores [tg] e X.env=pure none:=by rfl)
  (h1:(assignEach [tg] X.env).map (·.2)=[assign tg X.env]:=by rfl):PS3 ca X (.Assign [tg] e pos) (mAsg f me) :=
 fun pn Φ=>Z4 (QhL (X:=xat X ca pn Φ) (he pn Φ) (hg pn Φ) hs hw h1) Qka
theorem Qlk (i:Nat) {x:Str} {pos':Pos} (hN:X.N.Nodup) (he:PE3 ca X e me) (hi:X.N[i]?=some x:=by rfl) (hx:Loc X.env.scope x:=by first | exact Or.inl rfl | exact Or.inr rfl)
  (hs:swapsWith e (some (.Name x pos')) pos.line X.env=pure false:=by rfl) (hf:X.fn x=true∨X.env.scope.names.lookup x=some .local:=by first | exact .inl rfl | exact .inr rfl) :
  PS3 ca X (.Assign [.Name x pos'] e pos) (mAsg (gSet i) me) :=
 fun pn Φ=>Z4 (QjF (X:=xat X ca pn Φ) hN hi hx (he pn Φ) hs hf) fun E σ H h=>by
  obtain⟨σ3,g,μ,R,p⟩:=h
  refine⟨σ3,g,μ,R,?_⟩
  unfold mAsg gSet at p
  cases hm:me σ3 g with
  | ok d g1 =>
   rw [hm] at p
   exact fun v H' μ' e' r' q'=>p _ H' μ' e' ((R.go e' r').set q' i)
  | raise _ _=>rw [hm] at p; exact RaP.stmt R p
  | stuck=>rw [hm] at p; exact p
structure FldOk (K:PySem.W.Frag) (ca:Nat->Addr) (cs:List Nat) (f:Str):Prop where
 cl:∀ c∈cs,Cls K (ca c)
 no:∀ c∈cs,NoAttr K (ca c) f
theorem FRel.look {K:PySem.W.Frag} {μ:List Addr} {H:Hp} {f:Str} {d:D}:∀ {fv:List (Str×V)} {fs:List (Str×D)},FRel K μ H fv fs->fs.lookup f=some d->∃ v,fv.lookup f=some v∧Den K μ H v d
 | _,_,.nil,h=>by cases h
 | (k,v)::r,(k',d')::r',.cons ⟨e,q⟩ t,h=>by
  have e:k=k':=e
  subst e
  cases hb:f == k with
  | true =>
   simp only [List.lookup,hb] at h ⊢
   cases h
   exact⟨v,rfl,q⟩
  | false =>
   simp only [List.lookup,hb] at h ⊢
   exact FRel.look t h
theorem FRel.no {K:PySem.W.Frag} {μ:List Addr} {H:Hp} {f:Str}:∀ {fv:List (Str×V)} {fs:List (Str×D)},FRel K μ H fv fs->fs.lookup f=Option.none->fv.lookup f=Option.none
 | _,_,.nil,_=>rfl
 | (k,v)::r,(k',d')::r',.cons ⟨e,q⟩ t,h=>by
  have e:k=k':=e
  subst e
  cases hb:f == k with
  | true=>simp only [List.lookup,hb] at h; cases h
  | false =>
   simp only [List.lookup,hb] at h ⊢
   exact FRel.no t h
theorem FRel.put {K:PySem.W.Frag} {μ:List Addr} {H:Hp} {f:Str} {v:V} {d:D} (q:Den K μ H v d):∀ {fv:List (Str×V)} {fs:List (Str×D)},FRel K μ H fv fs->FRel K μ H (putF f v fv) (putG f d fs)
 | _,_,.nil=>.cons ⟨rfl,q⟩ .nil
 | (k,w)::r,(k',d')::r',.cons ⟨e,z⟩ t=>by
  have e:k=k':=e
  subst e
  show FRel K μ H (if k=f then (k,v)::r else (k,w)::putF f v r) (if k=f then (k,d)::r' else (k,d')::putG f d r')
  by_cases h:k=f
  ·rw [if_pos h,if_pos h]; exact .cons ⟨rfl,q⟩ t
  ·rw [if_neg h,if_neg h]; exact .cons ⟨rfl,z⟩ (FRel.put q t)
theorem Zr {cs:List Nat} {f:Str} (he:PE3 ca X e me) (ok:FldOk X.K ca cs f) (hb:attributeBase e f X.env (eval e X.env)=eval e X.env:=by rfl):PE3 ca X (.Attribute e f pos) (ZO cs f me) :=
 fun pn Φ=>Zo (QjQ (X:=xat X ca pn Φ) (he pn Φ) hb) fun σ H Q ⟨σ3,g,μ,R,p⟩=>Za (JE R p) fun x H1 hQ=>by
  obtain⟨d,g1,μ1,e1,R1,q1,p1⟩:=hQ
  cases q1 with
  | @ref n a hn =>
   dsimp only at p1
   cases hg:g1[n]? with
   | none=>rw [hg] at p1; exact p1.elim
   | some o =>
    rw [hg] at p1
    obtain⟨a',ha',ob⟩:=R1.g.addr hg
    rw [hn] at ha'; cases ha'
    cases o with
    | ins c fs =>
     dsimp only at p1
     obtain⟨dx,fv,hH,fr⟩:=ob
     by_cases hc:c∈cs
     ·rw [if_pos hc] at p1
      cases hl:fs.lookup f with
      | none=>rw [hl] at p1; exact p1.elim
      | some y =>
       rw [hl] at p1
       obtain⟨v,h1,h2⟩:=fr.look hl
       exact⟨a,ca c,dx,fv,v,rfl,hH,ok.cl c hc,ok.no c hc,h1,p1 v H1 μ1 .refl R1.g h2⟩
     ·rw [if_neg hc] at p1; exact p1.elim
    | _=>exact p1.elim
  | _=>exact p1.elim
theorem Zs {o:Expr} {mo:ME} {cs:List Nat} {f:Str} {pos':Pos} (ho:PE3 ca X o mo) (he:PE3 ca X e me) (ok:FldOk X.K ca cs f) (hs:swapsWith e (some (.Attribute o f pos')) pos.line X.env=pure false:=by rfl) :
  PS3 ca X (.Assign [.Attribute o f pos'] e pos) (QM cs f mo me) :=
 fun pn Φ=>Z4 (QjR (X:=xat X ca pn Φ) (ho pn Φ) (he pn Φ) hs) fun E σ H ⟨σ3,g,μ,R,p⟩=>⟨σ3,g,μ,R,by
  unfold QM at p
  cases hm:me σ3 g with
  | ok y g1 =>
   rw [hm] at p
   dsimp only at p
   intro vy H1 μ1 e1 r1 q1
   refine⟨σ3,g1,μ1,R.go e1 r1,?_⟩
   cases hm2:mo σ3 g1 with
   | ok d g2 =>
    rw [hm2] at p
    intro vx H2 μ2 e2 r2 q2
    cases q2 with
    | @ref n a hn =>
     dsimp only at p
     cases hg:g2[n]? with
     | none=>rw [hg] at p; exact p.elim
     | some ob =>
      rw [hg] at p
      obtain⟨a',ha',orp⟩:=r2.addr hg
      rw [hn] at ha'; cases ha'
      cases ob with
      | ins c fs =>
       dsimp only at p
       obtain⟨dx,fv,hH,fr⟩:=orp
       by_cases hc:c∈cs∧fs.length<100
       ·rw [if_pos hc] at p
        have fl:fv.length=fs.length:=Paired.length fr
        refine⟨a,ca c,dx,fv,rfl,hH,ok.cl c hc.1,ok.no c hc.1,by omega,?_⟩
        have ex:Ext X.K μ2 H2 μ2 (upd H2 a (.ins (ca c) dx (putF f vy fv))):=Qbf hH (by intro _ z; cases z) (by intro _ _ z; cases z)
        refine p σ _ μ2 ((e1.trans e2).trans ex) ((R.go (e1.trans e2) r2).go ex ?_)
        exact r2.set hn hH (by intro _ z; cases z) (by intro _ _ z; cases z) ⟨dx,_,Qu,FRel.put ((q1.mono e2).mono ex) (fr.mono ex)⟩
       ·rw [if_neg hc] at p; exact p.elim
      | _=>exact p.elim
    | _=>exact p.elim
   | raise _ _=>rw [hm2] at p; exact(RaP.stmt R p).go e1
   | stuck=>rw [hm2] at p; exact p
  | raise _ _=>rw [hm] at p; exact RaP.stmt R p
  | stuck=>rw [hm] at p; exact p⟩
theorem Qci {o i:Expr} {mo mi:ME} {pos':Pos} (ho:PE3 ca X o mo) (hi:PE3 ca X i mi) (he:PE3 ca X e me) (hs:swapsWithSole [.Subscript o i pos'] e pos.line X.env=pure false:=by rfl)
  (hw:swappedStores [.Subscript o i pos'] e X.env=pure none:=by rfl) (h1:(assignEach [.Subscript o i pos'] X.env).map (·.2)=[assign (.Subscript o i pos') X.env]:=by rfl)
  (ha:∀ v,assign (.Subscript o i pos') X.env v=(do
   let ov ← holding [v] (eval o X.env)
   let iv ← holding [v,ov] (eval i X.env)
   standAt pos'
   holding [v,ov,iv] (setItem ov iv v)
   release [v,ov,iv] []):=by intro _; rfl):PS3 ca X (.Assign [.Subscript o i pos'] e pos) (Y7 mo mi me) :=
 fun pn Φ=>Z4 (QhL (X:=xat X ca pn Φ) (he pn Φ) (QjE (X:=xat X ca pn Φ) (ho pn Φ) (hi pn Φ) Qg9 ha) hs hw h1) fun E σ H ⟨σ3,g,μ,R,p⟩=>⟨σ3,g,μ,R,by
  unfold Y7 at p
  cases hm:me σ3 g with
  | ok y g1 =>
   rw [hm] at p
   dsimp only at p
   intro vy H1 μ1 e1 r1 q1
   refine⟨σ3,g1,μ1,R.go e1 r1,?_⟩
   cases hm2:mo σ3 g1 with
   | ok d g2 =>
    rw [hm2] at p
    intro vx H2 μ2 e2 r2 q2
    cases q2 with
    | @ref n a hn =>
     dsimp only at p
     refine⟨σ3,g2,μ2,R.go (e1.trans e2) r2,?_⟩
     cases hm3:mi σ3 g2 with
     | ok di g3 =>
      rw [hm3] at p
      intro vi H3 μ3 e3 r3 q3
      cases q3 with
      | int k =>
       dsimp only at p
       cases hg:g3[n]? with
       | none=>rw [hg] at p; exact p.elim
       | some ob =>
        rw [hg] at p
        obtain⟨a',ha',orp⟩:=r3.addr hg
        rw [e3.at hn] at ha'; cases ha'
        cases ob with
        | lst ds =>
         dsimp only at p
         obtain⟨vs,hH,q⟩:=orp
         cases hj:ixD ds.length k with
         | none=>rw [hj] at p; exact p.elim
         | some j =>
          rw [hj] at p
          have ex:Ext X.K μ3 H3 μ3 (upd H3 a (.lst (vs.set j vy))):=Qbf hH (by intro _ z; cases z) (by intro _ _ z; cases z)
          refine⟨a,vs,k,j,rfl,rfl,hH,by rw [q.length]; exact hj,?_⟩
          refine p σ _ μ3 (((e1.trans e2).trans e3).trans ex) ((R.go ((e1.trans e2).trans e3) r3).go ex ?_)
          exact r3.set (e3.at hn) hH (by intro _ z; cases z) (by intro _ _ z; cases z) ⟨_,Qu,Dens.set (((q1.mono e2).mono e3).mono ex) j (q.mono ex)⟩
        | _=>exact p.elim
      | _=>exact p.elim
     | raise _ _=>rw [hm3] at p; exact(RaP.stmt R p).go (e1.trans e2)
     | stuck=>rw [hm3] at p; exact p
    | _=>exact p.elim
   | raise _ _=>rw [hm2] at p; exact(RaP.stmt R p).go e1
   | stuck=>rw [hm2] at p; exact p
  | raise _ _=>rw [hm] at p; exact RaP.stmt R p
  | stuck=>rw [hm] at p; exact p⟩
noncomputable def Sim (K:PySem.W.Frag) (ca:Nat->Addr) (μ0:List Addr) (H0:Hp) (src:Src) (J:It):Prop :=
 ∀(i:Nat) (H:Hp) (μ:List Addr) (g:G),Ext K μ0 H0 μ H->GRep K ca μ H g->match src.at' g i with
  | some (some d)=>J.go i H∧∀ x H',J.yld i H x H'->Ext K μ H μ H'∧GRep K ca μ H' g∧Den K μ H' x d
  | some none=>J.stop i H
  | none=>True
noncomputable def upI (K:PySem.W.Frag) (ca:Nat->Addr) (Φ:XS) (m:MI):TI:=fun σ H R=>∃ σ3 g μ,Rep K ca μ σ3 g σ H∧match m σ3 g with
 | .ok src g'=>∀ J H' μ',Ext K μ H μ' H'->GRep K ca μ' H' g'->Sim K ca μ' H' src J->R J H'
 | .raise x g'=>RaP K ca Φ σ H μ x g'
 | .stuck=>False
noncomputable def PI3 (ca:Nat->Addr) (X:Cx) (tg iter:Expr) (m:MI):Prop:=∀ pn Φ,PI (xat X ca pn Φ) tg iter (upI X.K ca Φ m)
theorem QbR {tg iter:Expr} {body:List Stmt} {mi:MI} {f:MG} (hc:X.calm=true) (hi:PI3 ca X tg iter mi) (hg:PG3 ca X tg f) (hb:PSs3 ca X body m) (hs:∀ x,foldedSetIterable iter X.env x=pure x:=by intro _; rfl) (hk:X.stack=X.env::X.outer:=by rfl) (hf:X.env.frame=some X.env.locals:=by rfl) :
  PS3 ca X (.For tg iter body [] pos) (mFor mi f m) :=
 fun pn Φ=>Z4 (QjI (X:=xat X ca pn Φ) (QhT hk hf pn Φ) hc (hi pn Φ) (hg pn Φ) (hb pn Φ) hs) fun E σ H ⟨σ3,g,μ,R,p⟩=>⟨σ3,g,μ,R,by
  unfold mFor at p
  cases hm:mi σ3 g with
  | ok src g' =>
   rw [hm] at p
   dsimp only at p ⊢
   intro J H' μ' e' r' sim
   refine⟨fun i n σ1 H1=>∃ σ4 g1 μ1,Ext X.K μ' H' μ1 H1∧Rep X.K ca μ1 σ4 g1 σ1 H1∧PostS X.K ca Φ E H1 μ1 (forL src f m n i σ4 g1),⟨src.top+1,σ3,g',μ',.refl,R.go e' r',p.go e'⟩,?_⟩
   rintro i n σ1 H1 ⟨σ4,g1,μ1,e1,R1,p1⟩
   have s1:=sim i H1 μ1 g1 e1 R1.g
   cases n with
   | zero=>exact p1.elim
   | succ n =>
    unfold forL at p1
    cases ha:src.at' g1 i with
    | none=>rw [ha] at p1; exact p1.elim
    | some od =>
     rw [ha] at p1 s1
     cases od with
     | none=>exact .inl ⟨s1,p1 σ1 H1 μ1 .refl R1⟩
     | some d =>
      dsimp only at p1 s1
      obtain⟨go,yl⟩:=s1
      refine .inr ⟨go,fun σ2 H2=>∃ σ5 g2 μ2,Ext X.K μ' H' μ2 H2∧Rep X.K ca μ2 σ5 g2 σ2 H2∧PostS X.K ca Φ E H2 μ2 (forL src f m n (i+1) σ5 g2),fun σ2 H2 z=>⟨n,Nat.lt_succ_self n,z⟩,fun x H2 y=>?_⟩
      obtain⟨e2,r2,q2⟩:=yl x H2 y
      cases hf:f d σ4 with
      | none=>rw [hf] at p1; exact p1.elim
      | some σ5 =>
       rw [hf] at p1
       dsimp only at p1
       refine⟨σ4,g1,μ1,d,σ5,R1.go e2 r2,q2,hf,fun σ6 R6=>⟨σ5,g1,μ1,R6,?_⟩⟩
       cases hb:m σ5 g1 with
       | nx σ7 g7 =>
        rw [hb] at p1
        exact fun σ' H3 μ3 e3 R3=>⟨σ7,g7,μ3,(e1.trans e2).trans e3,R3,PostS.go (e2.trans e3) p1⟩
       | ct σ7 g7 =>
        rw [hb] at p1
        exact fun σ' H3 μ3 e3 R3=>⟨σ7,g7,μ3,(e1.trans e2).trans e3,R3,PostS.go (e2.trans e3) p1⟩
       | bk σ7 g7 =>
        rw [hb] at p1
        exact fun σ' H3 μ3 e3 R3=>p1 σ' H3 μ3 (e2.trans e3) R3
       | rt d7 g7 =>
        rw [hb] at p1
        exact fun v H3 μ3 e3 r3 q3=>p1 v H3 μ3 (e2.trans e3) r3 q3
       | raise _ _ _ =>
        rw [hb] at p1
        exact fun σ' H3 μ3 e3 R3=>p1 σ' H3 μ3 (e2.trans e3) R3
       | stuck=>rw [hb] at p1; exact p1
  | raise _ _=>rw [hm] at p; exact RaP.stmt R p
  | stuck=>rw [hm] at p; exact p⟩
theorem QfO {body:List Stmt} (hc:PT3 ca X c tc) (hb:PSs3 ca X body m) (hk:X.stack=X.env::X.outer:=by rfl) (hf:X.env.frame=some X.env.locals:=by rfl):PS3 ca X (.While c body [] pos) (QaB tc m) :=
 fun pn Φ=>Z4 (Qg2 (X:=xat X ca pn Φ) (QhT hk hf pn Φ) (hc pn Φ) (hb pn Φ)) fun E σ H hQ=>by
  obtain⟨σ3,g,μ,R,p⟩:=hQ
  unfold QaB at p
  by_cases hh:∃ f,Zq tc m f σ3 g≠.stuck
  ·rw [dif_pos hh] at p
   generalize hh.choose=k at p
   refine⟨fun n σ1 H1=>∃ σ4 g1 μ1,Ext X.K μ H μ1 H1∧Rep X.K ca μ1 σ4 g1 σ1 H1∧PostS X.K ca Φ E H1 μ1 (Zq tc m n σ4 g1),⟨k,σ3,g,μ,.refl,R,p⟩,?_⟩
   rintro n σ1 H1 ⟨σ4,g1,μ1,e1,R1,p1⟩
   cases n with
   | zero=>exact p1.elim
   | succ n =>
    unfold Zq at p1
    refine⟨σ4,g1,μ1,R1,?_⟩
    cases ht:tc σ4 g1 with
    | ok t g2 =>
     rw [ht] at p1
     cases t with
     | true =>
      dsimp only at p1
      intro H2 μ2 e2 r2
      rw [if_pos rfl]
      refine⟨fun σ2 H3=>∃ σ5 g3 μ3,Ext X.K μ H μ3 H3∧Rep X.K ca μ3 σ5 g3 σ2 H3∧PostS X.K ca Φ E H3 μ3 (Zq tc m n σ5 g3),fun σ2 H3 z=>⟨n,Nat.lt_succ_self n,z⟩,σ4,g2,μ2,R1.go e2 r2,?_⟩
      cases hb:m σ4 g2 with
      | nx σ7 g7 =>
       rw [hb] at p1
       exact fun σ' H3 μ3 e3 R3=>⟨σ7,g7,μ3,(e1.trans e2).trans e3,R3,PostS.go (e2.trans e3) p1⟩
      | ct σ7 g7 =>
       rw [hb] at p1
       exact fun σ' H3 μ3 e3 R3=>⟨σ7,g7,μ3,(e1.trans e2).trans e3,R3,PostS.go (e2.trans e3) p1⟩
      | bk σ7 g7 =>
       rw [hb] at p1
       exact fun σ' H3 μ3 e3 R3=>p1 σ' H3 μ3 (e2.trans e3) R3
      | rt d7 g7 =>
       rw [hb] at p1
       exact fun v H3 μ3 e3 r3 q3=>p1 v H3 μ3 (e2.trans e3) r3 q3
      | raise _ _ _ =>
       rw [hb] at p1
       exact fun σ' H3 μ3 e3 R3=>p1 σ' H3 μ3 (e2.trans e3) R3
      | stuck=>rw [hb] at p1; exact p1
     | false =>
      intro H2 μ2 e2 r2
      rw [if_neg Bool.false_ne_true]
      exact p1 σ1 H2 μ2 e2 (R1.go e2 r2)
    | raise _ _=>rw [ht] at p1; exact RaP.stmt R1 p1
    | stuck=>rw [ht] at p1; exact p1
  ·rw [dif_neg hh] at p; exact p.elim
end
end L3
end
section
namespace L3
open PySem PySem.Spec PyProof.Rows L2
noncomputable def spM (K:PySem.W.Frag) (ca:Nat->Addr) (n:Nat) (F:MF):Sp:=fun vs H Q E=>vs.length=n∧∃ ds g μ,GRep K ca μ H g∧Dens K μ H vs ds∧match F ds g with
 | .ok d g'=>∀ v H' μ',Ext K μ H μ' H'->GRep K ca μ' H' g'->Den K μ' H' v d->Q v H'
 | .raise x g'=>∀ H' μ',Ext K μ H μ' H'->GRep K ca μ' H' g'->E (.int x.1 0) x.2 H'
 | .stuck=>False
theorem QfP {K:PySem.W.Frag} {ca:Nat->Addr} {μ:List Addr} {H:Hp} {g:G} {vs:List V} {ds:List D} (N:List Str) (r:GRep K ca μ H g) (q:Dens K μ H vs ds):Rep K ca μ (ds.map some++List.replicate (N.length - vs.length) none) g (L2.start N vs) H:=by
 unfold L2.start
 refine⟨r,?_,fun i d h=>?_⟩
 ·rw [List.length_append,List.length_append,List.length_map,List.length_map,q.length,List.length_replicate,List.length_replicate]
 ·by_cases hi:i<ds.length
  ·rw [List.getElem?_append_left (by simpa using hi),List.getElem?_map] at h
   cases hd:ds[i]? with
   | none=>rw [hd] at h; cases h
   | some d' =>
    rw [hd] at h; cases h
    obtain⟨v,h1,h2⟩:=q.get hd
    refine⟨v,?_,h2⟩
    rw [List.getElem?_append_left (by simpa [q.length] using hi),List.getElem?_map,h1]; rfl
  ·rw [List.getElem?_append_right (by simpa using hi),List.getElem?_replicate] at h
   split at h <;> cases h
structure FnH (P:Program) (w:World) (K:PySem.W.Frag) (mg:Str->Option Value) (base:Heap) (ca:Nat->Addr) (x:Str) (k n:Nat) (F:MF):Prop where
 ex:∃(f:Addr) (fd:FuncData) (ps:List Str),FnOk P w K mg base (CXW P w ca) k f fd ps (spM K ca n F)∧mg x=some (.ref f)∧PySem.W.keepIn K (.ref f)=true∧Binds K fd ps []
 st:∀ ds g,ds.length≠n->F ds g=.stuck
structure MtH (P:Program) (w:World) (K:PySem.W.Frag) (mg:Str->Option Value) (base:Heap) (ca:Nat->Addr) (c:Nat) (x:Str) (k n:Nat) (F:MF):Prop where
 ex:∃(f:Addr) (fd:FuncData) (ps:List Str),FnOk P w K mg base (CXW P w ca) k f fd ps (spM K ca n F)∧Meth K (ca c) x f∧Cls K (ca c)∧Binds K fd ps []
 st:∀ ds g,ds.length≠n->F ds g=.stuck
structure MkH (P:Program) (w:World) (K:PySem.W.Frag) (mg:Str->Option Value) (base:Heap) (ca:Nat->Addr) (c:Nat) (x:Str) (k n:Nat) (F:MF):Prop where
 ex:∃(f:Addr) (fd:FuncData) (ps:List Str),FnOk P w K mg base (CXW P w ca) k f fd ps (spM K ca n F)∧Mk K (ca c) f∧mg x=some (.ref (ca c))∧Binds K fd ps []
 st:∀ ds g,ds.length≠n->F ds g=.stuck
theorem Qt (k n:Nat) (m:MS):∀ ds g,ds.length≠k->mDef k n m ds g=.stuck:=fun ds g h=>by unfold mDef; rw [if_neg h]
theorem FnH.mono {P:Program} {w:World} {K:PySem.W.Frag} {mg:Str->Option Value} {base:Heap} {ca:Nat->Addr} {x:Str} {j k n:Nat} {F:MF} (h:FnH P w K mg base ca x j n F) (hj:j≤k):FnH P w K mg base ca x k n F:=by
 obtain⟨f,fd,ps,a,b⟩:=h.ex
 exact⟨⟨f,fd,ps,a.mono hj,b⟩,h.st⟩
section
variable {P:Program} {w:World} {K:PySem.W.Frag} {mg:Str->Option Value} {base:Heap} {ca:Nat->Addr}
theorem QfQ {N:List Str} {qual:Str} {scope:Scope} {f:Addr} {cd:Value} {A:Around} {outer:List Env} {s:Shared} {H:Hp} {E:XK} {body:List Stmt} {t:TS}
  (h:PSs (xat (cxOf (CXW P w ca) P w K mg base N qual scope f cd A outer s H E) ca [] (fun x _ H'=>E (.int x.1 0) x.2 H')) body t):PSs (cxOf (CXW P w ca) P w K mg base N qual scope f cd A outer s H E) body t:=fun pins s1 σ H1 D I q =>
 wpAny_mono (h pins s1 σ H1 D (Inv.wish I _) q) (fun _ _ z=>SP.unwish (X:=cxOf (CXW P w ca) P w K mg base N qual scope f cd A outer s H E) z) fun _ _ z=>Qhc z
theorem Q7 {x qual:Str} {st:Stmt} {f:Addr} {fd:FuncData} {N ps:List Str} {k n j:Nat} {m:MS} (F:Fun K x qual st f fd) (S:FnScope N ps (Qd st)) (hj:ps.length=j) (hn:N.length - ps.length=n)
  (h:∀(cdv:Value) (A:Around) (outer:List Env) (s:Shared) (H:Hp) (E:XK),Room k (A.deeper (envOfC qual (Qd st) s.heap.objs.size f cdv)) ->
   PSs3 ca (cxOf (CXW P w ca) P w K mg base N qual (Qd st) f cdv A outer s H E) (Qq st) m):FnOk P w K mg base (CXW P w ca) (k+1) f fd ps (spM K ca j (mDef j n m)):=by
 subst hj
 obtain⟨oc,od,kV,doc,pm,an,cdv,ct,osl,rfl,lk,hcd⟩:=F.ex
 refine QjT lk hcd S (fun vs H Q E q=>q.1) fun A outer s H vs Q E hr hsp=>?_
 obtain⟨hl,ds,g,μ,r,q,p⟩:=hsp
 refine⟨_,QfQ (h cdv A outer s H E hr [] _),ds.map some++List.replicate n none,g,μ,?_,?_⟩
 ·have z:=QfP N r q
  rw [hl,hn] at z
  exact z
 ·unfold mDef at p
  rw [if_pos (by rw [← q.length,hl])] at p
  cases hm:m (ds.map some++List.replicate n none) g with
  | nx σ' g'=>rw [hm] at p; exact fun σ'' H' μ' e' R'=>p .non H' μ' e' R'.g .non
  | rt d g'=>rw [hm] at p; exact p
  | bk _ _=>rw [hm] at p; exact p.elim
  | ct _ _=>rw [hm] at p; exact p.elim
  | raise _ _ _=>rw [hm] at p; exact fun σ'' H' μ' e' R'=>p H' μ' e' R'.g
  | stuck=>rw [hm] at p; exact p.elim
noncomputable def EK (Φ:XS) (σ:L2.St):XK:=fun c l H'=>∀ x:Xc,c=.int x.1 0->l=x.2->Φ x σ H'
theorem Qd8 {F:MF} {n:Nat} {Φ:XS} {σ:L2.St} {Q:VK} {H:Hp} {μ:List Addr} {vs:List V} {ds:List D} {g:G} (st:∀ ds g,ds.length≠n->F ds g=.stuck) (r:GRep K ca μ H g) (q:Dens K μ H vs ds) (p:Post K ca Φ σ Q H μ (F ds g)):spM K ca n F vs H Q (EK Φ σ):=by
 have hl:vs.length=n:=by
  rw [q.length]
  apply Decidable.byContradiction
  intro h
  rw [st ds g h] at p
  exact p
 refine⟨hl,ds,g,μ,r,q,?_⟩
 cases hF:F ds g with
 | ok d g'=>rw [hF] at p; exact p
 | raise x g' =>
  rw [hF] at p
  intro H' μ' e r' y e1 e2
  have:x=y:=by
   obtain⟨a,b⟩:=x
   obtain⟨c,d⟩:=y
   injection e1 with e1
   have e1:(a:Int)=(c:Int):=e1
   have e3:a=c:=by omega
   rw [e3,show b=d from e2]
  rw [← this]
  exact p H' μ' e r'
 | stuck=>rw [hF] at p; exact p
end
section
variable {X:Cx} {ca:Nat->Addr} {e o:Expr} {es:List Expr} {me mo:ME} {mr:MA} {p pos apos:Pos} {k n:Nat} {F:MF} {pn:List (Addr×Obj)} {Φ:XS}
theorem QfR {f:Addr} {fd:FuncData} {ps:List Str} {pins:List (Addr×Obj)} {σ:L2.St} {H:Hp} {s:Shared} {Q:VK} {us:List Value} {vs:List V} (G:FnOk X.prog X.w X.K X.mg X.base (CXW X.prog X.w ca) k f fd ps (spM X.K ca n F)) (hr:Room k X.A) (hb:Binds X.K fd ps [])
  (I:Inv (xat X ca pn Φ) pins σ H s) (r:Vals vs us) (h:spM X.K ca n F vs H Q (EK Φ σ)):wpAny (model X.prog X.w) X.A (call (.ref f) us) (EP (xat X ca pn Φ) pins σ Q) (xat X ca pn Φ).xe s:=by
 have hl:(us++[]).length=ps.length:=by rw [List.append_nil,← r.length]; exact G.len _ _ _ _ h
 have b:=hb s us I.kIn hl
 rw [List.append_nil] at b
 refine wpAny_call (codeAny_mono (G.run X.A X.stack s H ⟨us,[]⟩ us vs Q (EK Φ σ) hr I.env0 b r h) fun res s' hq=>?_)
 cases res with
 | error z=>exact QfL I hq
 | ok fl =>
  cases fl with
  | ret u=>exact I.after hq
  | _=>exact False.elim hq
theorem Qp {x:Str} (h:FnH X.prog X.w X.K X.mg X.base ca x k n F) (hr:Room k X.A) (ha:PA3 ca X (e::es) mr) (hg:Gl X x:=by rfl) (hdb:(x == ("__debug__" : Str))=false:=by decide)
  (he:starEach (e::es) X.env=(false,eval e X.env)::starEach es X.env:=by rfl) (hpl:(backTo pos (starEach es X.env)).any (·.1)=false:=by rfl):PE3 ca X (.Call (.Name x p) (e::es) [] pos) (Qn F mr):=by
 obtain⟨f,fd,ps,F1,m1,k1,b1⟩:=h.ex
 intro pn Φ pins s σ H Q I ⟨σ3,g,μ,R,q⟩
 refine wpAny_Call_Name_kw (Qa5 I hg m1 ?_ hdb)
 have z:upA X.K ca Φ mr σ H fun vs H1=>spM X.K ca n F vs H1 Q (EK Φ σ):=Ju (QcW R q) fun xs H1 ⟨ds,g1,μ1,e1,R1,q1,p1⟩=>Qd8 h.st R1.g q1 p1
 refine PySem.W.callWith_K (h₀:=X.base) I.ok.mod.kin k1 (thn (ha pn Φ pos pins s σ H _ I z) fun us s1 ⟨vs,H1,I1,r,q1⟩=>⟨I1.kIn,?_⟩) he hpl
 exact QfR F1 hr b1 I1 r q1
theorem QfS {K:PySem.W.Frag} {c:Nat} {m:Str} {σ:L2.St} {H:Hp} {Q:VK} {α:Type} {kk:Nat->G->Res α} {R:Res α->Hp->List Addr->Prop} {d:D} {g:G} {μ:List Addr} {v:V} (r:GRep K ca μ H g) (hst:¬ R .stuck H μ)
  (p:R (match d with
   | .ref i=>(match g[i]? with
    | some (.ins c' fs)=>if c'=c∧fs.lookup m=none then kk i g else .stuck
    | _=>.stuck)
   | _=>.stuck) H μ) (q:Den K μ H v d):∃ a dx fv i,d=.ref i∧v=.ref a∧μ[i]?=some a∧H a=some (.ins (ca c) dx fv)∧fv.lookup m=none∧R (kk i g) H μ:=by
 cases q with
 | @ref i a hn =>
  dsimp only at p
  cases hg:g[i]? with
  | none=>rw [hg] at p; exact(hst p).elim
  | some ob =>
   rw [hg] at p
   obtain⟨a',ha',orp⟩:=r.addr hg
   rw [hn] at ha'; cases ha'
   cases ob with
   | ins c' fs =>
    dsimp only at p
    obtain⟨dx,fv,hH,fr⟩:=orp
    by_cases hc:c'=c∧fs.lookup m=none
    ·rw [if_pos hc] at p
     obtain⟨rfl,hl⟩:=hc
     exact⟨a,dx,fv,i,rfl,rfl,hn,hH,fr.no hl,p⟩
    ·rw [if_neg hc] at p; exact(hst p).elim
   | _=>exact(hst p).elim
 | _=>exact(hst p).elim
theorem Qkb {c:Nat} {m:Str} {pl:Sem Bool} (h:MtH X.prog X.w X.K X.mg X.base ca c m k n F) (hr:Room k X.A) (ho:PE3 ca X o mo) (ha:PA3 ca X (e::es) mr)
  (hst:starEach (e::es) X.env=(false,eval e X.env)::starEach es X.env:=by rfl) (hpl:(backTo pos (starEach es X.env)).any (·.1)=false:=by rfl)
  (ht:eval (.Call (.Attribute o m apos) (e::es) [] pos) X.env=(do
   let ov ← eval o X.env
   standAt apos.atName
   let (f,first) ← holding [ov] (getMethod ov m pl)
   callWith pos f first (backTo pos (starEach (e::es) X.env)) (backToKw pos (keywordEach [] X.env))):=by rfl):PE3 ca X (.Call (.Attribute o m apos) (e::es) [] pos) (QbQ c m F mo mr):=by
 obtain⟨f,fd,ps,F1,m1,k1,b1⟩:=h.ex
 intro pn Φ pins s σ H Q I ⟨σ3,g,μ,R,q⟩
 refine PySem.W.methodCall_KW (pl:=pl) (thn (ho pn Φ pins s σ H _ I (JE R q)) fun u s1 ⟨x,H1,I1,rx,d,g1,μ1,e1,R1,q1,p1⟩=>?_) ht
 obtain⟨a,dx,fv,i,rfl,rfl,hn,hH,hl,p2⟩:=QfS (Q:=Q) (σ:=σ) (R:=fun r H μ=>Post X.K ca Φ σ Q H μ r) (kk:=fun i g=>(mr σ3 g).bind fun xs g2=>F (.ref i::xs) g2) R1.g (fun z=>z) p1 q1
 obtain rfl:u=Value.ref a:=rx
 refine QbZ I1 hH k1 m1 hl ?_
 have z:upA X.K ca Φ mr σ H1 fun vs H2=>spM X.K ca n F (.ref a::vs) H2 Q (EK Φ σ):=Ju (QcW R1 p2) fun xs H2 ⟨ds,g2,μ2,e2,R2,q2,p3⟩=>Qd8 h.st R2.g (.cons (.ref (e2.at hn)) q2) p3
 refine PySem.W.callWith_K (first:=[.ref a]) (h₀:=X.base) I.ok.mod.kin m1.kp (thn (ha pn Φ pos pins s1 σ H1 _ I1 z) fun us s2 ⟨vs,H2,I2,r,q2⟩=>⟨I2.kIn,?_⟩) hst hpl
 exact QfR (us:=.ref a::us) (vs:=.ref a::vs) F1 hr b1 I2 (.cons rfl r) q2
theorem Qds {c:Nat} {m:Str} {pl:Sem Bool} (h:MtH X.prog X.w X.K X.mg X.base ca c m k n F) (hr:Room k X.A) (ho:PE3 ca X o mo)
  (ht:eval (.Call (.Attribute o m apos) [] [] pos) X.env=(do
   let ov ← eval o X.env
   standAt apos.atName
   let (f,first) ← holding [ov] (getMethod ov m pl)
   callWith pos f first (backTo pos (starEach [] X.env)) (backToKw pos (keywordEach [] X.env))):=by rfl):PE3 ca X (.Call (.Attribute o m apos) [] [] pos) (QbQ c m F mo mNil):=by
 obtain⟨f,fd,ps,F1,m1,k1,b1⟩:=h.ex
 intro pn Φ pins s σ H Q I ⟨σ3,g,μ,R,q⟩
 refine PySem.W.methodCall_KW (pl:=pl) (thn (ho pn Φ pins s σ H _ I (JE R q)) fun u s1 ⟨x,H1,I1,rx,d,g1,μ1,e1,R1,q1,p1⟩=>?_) ht
 obtain⟨a,dx,fv,i,rfl,rfl,hn,hH,hl,p2⟩:=QfS (Q:=Q) (σ:=σ) (R:=fun r H μ=>Post X.K ca Φ σ Q H μ r) (kk:=fun i g=>(mNil σ3 g).bind fun xs g2=>F (.ref i::xs) g2) R1.g (fun z=>z) p1 q1
 obtain rfl:u=Value.ref a:=rx
 refine QbZ I1 hH k1 m1 hl ?_
 exact PySem.W.callWith_K0 (first:=[.ref a]) I1.kIn m1.kp (QfR (us:=[.ref a]) (vs:=[.ref a]) F1 hr b1 I1 (.cons rfl .nil) (Qd8 h.st R1.g (.cons (.ref hn) .nil) p2))
theorem QhU {c:Nat} {x:Str} (h:MkH X.prog X.w X.K X.mg X.base ca c x k n F) (hr:Room (k+1) X.A) (ha:PA3 ca X (e::es) mr) (hg:Gl X x:=by rfl) (hdb:(x == ("__debug__" : Str))=false:=by decide)
  (he:starEach (e::es) X.env=(false,eval e X.env)::starEach es X.env:=by rfl) (hpl:(backTo pos (starEach es X.env)).any (·.1)=false:=by rfl):PE3 ca X (.Call (.Name x p) (e::es) [] pos) (QcV c F mr):=by
 obtain⟨f,fd,ps,F1,m1,k1,b1⟩:=h.ex
 intro pn Φ pins s σ H Q I ⟨σ3,g,μ,R,q⟩
 refine wpAny_Call_Name_kw (Qa5 I hg k1 ?_ hdb)
 have z:upA X.K ca Φ mr σ H fun vs H1=>∀ y dy,H1 y=none->H1 dy=none->dy≠y->spM X.K ca n F (.ref y::vs) (upd (upd H1 dy (.own y)) y (.ins (ca c) dy [])) (fun v H2=>v=.non∧Q (.ref y) H2) (EK Φ σ) :=
  Ju (QcW R q) fun xs H1 ⟨ds,g1,μ1,e1,R1,q1,p1⟩ y dy hy hdy ne=>by
   have hy2:(upd H1 dy (.own y)) y=none:=by rw [Qx (Ne.symm ne)]; exact hy
   have ex1:Ext X.K μ1 H1 μ1 (upd H1 dy (.own y)):=Q0 hdy
   have g2:=R1.g.new (o:=.own y) hdy
   have ex2:Ext X.K μ1 (upd H1 dy (.own y)) (μ1++[y]) (upd (upd H1 dy (.own y)) y (.ins (ca c) dy [])):=QB hy2
   have g3:GRep X.K ca (μ1++[y]) (upd (upd H1 dy (.own y)) y (.ins (ca c) dy [])) (g1++[.ins c []]):=g2.push hy2 ⟨dy,[],Qu,.nil⟩
   have ey:(μ1++[y])[g1.length]?=some y:=by rw [← R1.g.len]; simp
   refine Qd8 (Φ:=Φ) (σ:=σ) h.st g3 (.cons (.ref ey) ((q1.mono ex1).mono ex2)) ?_
   cases hF:F (D.ref g1.length::ds) (g1++[.ins c []]) with
   | stuck=>rw [hF] at p1; exact p1.elim
   | raise _ _=>rw [hF] at p1; exact RaP.go (ex1.trans ex2) p1
   | ok d g4 =>
    rw [hF,Res.bind_ok] at p1
    intro v H' μ' e' r' q'
    cases q' with
    | non=>exact⟨rfl,p1 _ H' μ' ((ex1.trans ex2).trans e') r' (.ref (e'.at ey))⟩
    | _=>exact p1.elim
 refine PySem.W.callWith_K (h₀:=X.base) I.ok.mod.kin m1.kp (thn (ha pn Φ pos pins s σ H _ I z) fun us s1 ⟨vs,H1,I1,r,q1⟩=>⟨I1.kIn,?_⟩) he hpl
 have hq:=q1 (s1.heap.objs.size+1) s1.heap.objs.size (I1.hok.fresh (Nat.le_succ _)) (I1.hok.fresh (Nat.le_refl _)) (Nat.ne_of_lt (Nat.lt_succ_self _))
 have I2:=Inv.made (C:=ca c) I1
 have r2:Vals (V.ref (s1.heap.objs.size+1)::vs) (Value.ref (s1.heap.objs.size+1)::us):=.cons rfl r
 have hl:(Value.ref (s1.heap.objs.size+1)::us++[]).length=ps.length:=by
  have w:=r2.length
  rw [F1.len _ _ _ _ hq] at w
  rw [List.append_nil]
  exact w.symm
 have b2:=b1 _ (Value.ref (s1.heap.objs.size+1)::us) I2.kIn hl
 rw [List.append_nil] at b2
 refine wpAny_call (Qg6 (f:=f) I1.kIn m1.makes m1.init (beq_iff_eq.mp m1.fn) (codeAny_mono (F1.run _ X.stack _ _ ⟨Value.ref (s1.heap.objs.size+1)::us,[]⟩ (Value.ref (s1.heap.objs.size+1)::us) _ _ (EK Φ σ) (hr.make (ca c) us [])
  (I2.env0.make (ca c) us []) b2 r2 hq) fun res s' hq'=>?_))
 cases res with
 | error z=>exact QfL I2 hq'
 | ok fl =>
  cases fl with
  | ret u =>
   obtain⟨v,H',I3,rv,ev,q3⟩:=I2.after hq'
   subst ev
   exact⟨rv,⟨V.ref (s1.heap.objs.size+1),H',I3,rfl,q3⟩⟩
  | _=>exact False.elim hq'
end
section
variable {X:Cx} {ca:Nat->Addr} {tg e:Expr} {me:ME} {mr:MA} {p pos:Pos}
theorem Qdt {X:Cx} {tg iter:Expr} {t t':TI} (h:PI X tg iter t) (i:∀ σ H R,t' σ H R->t σ H R):PI X tg iter t':=fun pins s σ H R I q=>h pins s σ H R I (i σ H R q)
theorem QfT (K:PySem.W.Frag) (μ:List Addr) (H:Hp) (lo:Int) (n:Nat):Sim K ca μ H (Q8 lo n) (Itr lo n):=by
 intro i H1 μ1 g1 e r
 unfold Q8
 dsimp only
 by_cases h:i<n
 ·rw [if_pos h]
  exact⟨h,fun x H' y=>by obtain⟨rfl,rfl⟩:=y; exact⟨.refl,r,.int _⟩⟩
 ·rw [if_neg h]
  exact Nat.le_of_not_lt h
theorem QiD {K:PySem.W.Frag} {μ:List Addr} {H:Hp} {a:Addr} {vs:List V} {ds:List D} (h:SqT K H a vs) (q:Dens K μ H vs ds):Sim K ca μ H ⟨fun _ i=>some ds[i]?,ds.length⟩ (Itt K a):=by
 intro i H1 μ1 g1 e r
 dsimp only
 cases hd:ds[i]? with
 | none =>
  refine⟨vs,e.tup _ _ h,?_⟩
  rw [q.length]
  exact List.getElem?_eq_none_iff.mp hd
 | some d =>
  obtain⟨v,h1,h2⟩:=q.get hd
  refine⟨⟨vs,v,e.tup _ _ h,h1⟩,fun x H' y=>?_⟩
  obtain⟨rfl,y⟩:=y
  have:=y vs (e.tup _ _ h)
  rw [h1] at this; cases this
  exact⟨.refl,r,h2.mono e⟩
theorem QiE {K:PySem.W.Frag} {μ:List Addr} {H:Hp} {a:Addr} {n t:Nat} (hn:μ[n]?=some a):Sim K ca μ H ⟨fun g i=>(match g[n]? with | some (.lst es)=>some es[i]? | _=>none),t⟩ (Itl K a):=by
 intro i H1 μ1 g1 e r
 dsimp only
 cases hg:g1[n]? with
 | none=>trivial
 | some o =>
  cases o with
  | lst ds =>
   dsimp only
   obtain⟨a',ha',vs,hH,q⟩:=r.addr hg
   rw [e.at hn] at ha'; cases ha'
   cases hd:ds[i]? with
   | none =>
    refine⟨vs,.of hH,?_⟩
    rw [q.length]
    exact List.getElem?_eq_none_iff.mp hd
   | some d =>
    obtain⟨v,h1,h2⟩:=q.get hd
    refine⟨⟨vs,v,.of hH,h1⟩,fun x H' y=>?_⟩
    obtain⟨rfl,y⟩:=y
    have:=y vs (.of hH)
    rw [h1] at this; cases this
    exact⟨.refl,r,h2⟩
  | _=>trivial
theorem Qkc {K:PySem.W.Frag} {μ:List Addr} {H:Hp} {a:Addr} {vs:List V} {ds:List D} (h:SqF K H a vs) (q:Dens K μ H vs ds):Sim K ca μ H ⟨fun _ i=>some ds[i]?,ds.length⟩ (Itl K a):=by
 intro i H1 μ1 g1 e r
 dsimp only
 have sq:SqL K H1 a vs:=(e.fl _ _ h).sq
 cases hd:ds[i]? with
 | none =>
  refine⟨vs,sq,?_⟩
  rw [q.length]
  exact List.getElem?_eq_none_iff.mp hd
 | some d =>
  obtain⟨v,h1,h2⟩:=q.get hd
  refine⟨⟨vs,v,sq,h1⟩,fun x H' y=>?_⟩
  obtain⟨rfl,y⟩:=y
  have:=y vs sq
  rw [h1] at this; cases this
  exact⟨.refl,r,h2.mono e⟩
theorem Qkd {l:Expr} {tl:TE} (hl:PE X l tl):PI X tg l (fun σ H R=>tl σ H fun x H1=>(∃ a,x=.ref a∧(∃ xs,SqL X.K H1 a xs)∧R (Itl X.K a) H1)∨∃ a,x=.ref a∧(∃ xs,SqT X.K H1 a xs)∧R (Itt X.K a) H1):=by
 intro pins s σ H R I h
 refine thn (hl pins s σ H _ I h) fun v s1 ⟨x,H1,I1,r1,q1⟩=>?_
 rcases q1 with⟨a,e,⟨xs,hq⟩,q⟩ | ⟨a,e,⟨xs,hq⟩,q⟩
 ·subst e
  cases r1
  obtain⟨its,rv,p,hz⟩:=I1.list hq
  refine wpAny_pyIter_list p.isList ?_
  refine⟨s1.heap.objs.size,[s1.heap.objs.size],_,_,H1,rfl,I1.kept (t':=s1.toks) fun b o e=>Heap.get?_push_of_some _ e,Qfn a _,⟨_,Heap.get?_push_size _ rfl,rfl,rfl⟩,fun b hb=>?_,q⟩
  have e:b=s1.heap.objs.size:=by simpa using hb
  subst e
  exact I1.fpOk (Nat.le_refl _) (I1.hok.fresh (Nat.le_refl _))
 ·subst e
  cases r1
  obtain⟨its,rv,p,hz⟩:=I1.tuple hq
  refine wpAny_pyIter_tuple (show s1.heap.IsTuple a its.toArray from p) ?_
  refine⟨s1.heap.objs.size,[s1.heap.objs.size],_,_,H1,rfl,I1.kept (t':=s1.toks) fun b o e=>Heap.get?_push_of_some _ e,QeF a _,⟨_,Heap.get?_push_size _ rfl,rfl,rfl⟩,fun b hb=>?_,q⟩
  have e:b=s1.heap.objs.size:=by simpa using hb
  subst e
  exact I1.fpOk (Nat.le_refl _) (I1.hok.fresh (Nat.le_refl _))
theorem Qam (he:PE3 ca X e me):PI3 ca X tg e (ZY me) :=
 fun pn Φ=>Qdt (Qkd (X:=xat X ca pn Φ) (he pn Φ)) fun σ H R hQ=>by
  obtain⟨σ3,g,μ,Rp,p⟩:=hQ
  unfold ZY at p
  refine⟨σ3,g,μ,Rp,?_⟩
  cases hm:me σ3 g with
  | raise _ _=>rw [hm] at p; exact p
  | stuck=>rw [hm] at p; exact p.elim
  | ok d g1 =>
   rw [hm,Res.bind_ok] at p
   intro v H1 μ1 e1 r1 q1
   unfold Qbd at p
   cases q1 with
   | @tup a vs ds ht hs =>
    exact .inr ⟨a,rfl,⟨vs,ht⟩,p _ H1 μ1 e1 r1 (QiD ht hs)⟩
   | @fl a vs ds ht hs=>exact .inl ⟨a,rfl,⟨vs,ht.sq⟩,p _ H1 μ1 e1 r1 (Qkc ht hs)⟩
   | @ref n a hn =>
    dsimp only at p
    cases hg:g1[n]? with
    | none=>rw [hg] at p; exact p.elim
    | some o =>
     rw [hg] at p
     obtain⟨a',ha',orp⟩:=r1.addr hg
     rw [hn] at ha'; cases ha'
     cases o with
     | lst ds=>obtain⟨vs,hH,q⟩:=orp; exact .inl ⟨a,rfl,⟨vs,.of hH⟩,p _ H1 μ1 e1 r1 (QiE hn)⟩
     | _=>exact p.elim
   | _=>exact p.elim
theorem YX (hm:X.mg "range" = none) (he:PE3 ca X e me) (hg:Gl X "range":=by rfl) (hs:starEach [e] X.env=[(false,eval e X.env)]:=by rfl):PI3 ca X tg (.Call (.Name "range" p) [e] [] pos) (QD me) :=
 fun pn Φ=>Qdt (Qfo (X:=xat X ca pn Φ) hg hm (JG he Ql hs pn Φ) hs) fun σ H R hQ=>by
  obtain⟨σ3,g,μ,Rp,p⟩:=hQ
  refine⟨σ3,g,μ,Rp,?_⟩
  unfold QD at p
  unfold Qb mNil
  cases hm:me σ3 g with
  | raise _ _=>rw [hm] at p; exact p
  | stuck=>rw [hm] at p; exact p.elim
  | ok d g1 =>
   rw [hm,Res.bind_ok] at p
   rw [Res.bind_ok,Res.bind_ok]
   intro vs H1 μ1 e1 r1 q1
   cases q1 with
   | cons h1 h2 =>
    cases h2
    cases h1 with
    | int j =>
     dsimp only at p
     by_cases hj:inR j
     ·rw [if_pos hj] at p
      exact⟨j,rfl,hj.1,hj.2,p _ H1 μ1 e1 r1 (QfT X.K μ1 H1 0 j.toNat)⟩
     ·rw [if_neg hj] at p; exact p.elim
    | _=>exact p.elim
end
end L3
end
section
namespace L3
open PySem PySem.Spec PyProof.Rows L2
noncomputable def blk (X:Cx) (scope:Scope) (cl:List (Str×Addr)) (C:Addr) (Nb:List Str) (s3:Shared) (H3:Hp) (ex:List Addr):Cx :=
 { X with env:=compEnvC scope cl C X.env,N:=Nb,s₀:=s3,H₀:=H3,outer:=X.stack,stack:=X.stack,ex:=ex,fn:=fun _=>false,pn:=[],xe:=fun _ _=>False }
structure BScope (X:Cx) (scope:Scope) (Nb:List Str) (no:Nat) (cap:List Nat):Prop where
 kind:scope.kind=.function
 cell:∀ y∈scope.names,y.2≠.cell
 loc:∀ y∈scope.names,y.2=.local->scope.names.lookup y.1=some .local
 free:∀ y∈scope.names,y.2=.free->X.env.kindOf y.1=some .cell∨X.env.kindOf y.1=some .free
 len:Nb.length=no+cap.length
 cap:∀(j i:Nat),cap[j]?=some i->∃ x,Nb[no+j]?=some x∧X.N[i]?=some x∧scope.names.lookup x=some .free∧Vis X.env.scope x∧X.env.kindOf x≠some .local
noncomputable def clOf (cells:List (Str×Addr)):List (Str×NameKind)->List (Str×Addr)->Option (List (Str×Addr))
 | [],cs=>some cs
 | (n,k)::r,cs=>if (k == .free)=true then (match cells.lookup n with
  | some a=>clOf cells r ((n,a)::cs)
  | none=>none) else clOf cells r cs
theorem Qan {env:Env}:∀(names:List (Str×NameKind)) (cs cl:List (Str×Addr)),clOf env.cells names cs=some cl ->
  (forIn names cs fun(x:Str×NameKind) (r:List (Str×Addr))=>(match x with
   | (name,kind)=>if (kind == .free)=true then (do let a ← cellOf env name; pure (ForInStep.yield ((name,a)::r))) else pure (ForInStep.yield r):Sem (ForInStep (List (Str×Addr)))))=(pure cl:Sem (List (Str×Addr)))
 | [],cs,cl,h=>by cases h; rfl
 | (n,k)::r,cs,cl,h=>by
  unfold clOf at h
  rw [List.forIn_cons]
  by_cases hk:(k == .free)=true
  ·rw [if_pos hk] at h
   cases hl:env.cells.lookup n with
   | none=>rw [hl] at h; cases h
   | some a =>
    rw [hl] at h
    dsimp only at h ⊢
    rw [if_pos hk]
    unfold cellOf
    rw [hl]
    exact Qan r _ cl h
  ·rw [if_neg hk] at h
   dsimp only
   rw [if_neg hk]
   exact Qan r _ cl h
theorem Qcj {scope:Scope} {env:Env} {cl:List (Str×Addr)} (h:clOf env.cells scope.names []=some cl):closureFor scope env=pure cl:=by
 have q:=Qan (env:=env) scope.names [] cl h
 unfold closureFor
 exact congrArg (fun t=>t >>= fun r=>(pure r:Sem _)) q
theorem Qbi {cells:List (Str×Addr)}:∀(names:List (Str×NameKind)) (cs:List (Str×Addr)),(∀ y∈names,y.2=.free->∃ c,cells.lookup y.1=some c)->∃ cl,clOf cells names cs=some cl
 | [],cs,_=>⟨cs,rfl⟩
 | (n,k)::r,cs,h=>by
  unfold clOf
  by_cases hk:(k == .free)=true
  ·rw [if_pos hk]
   obtain⟨c,e⟩:=h (n,k) List.mem_cons_self (beq_iff_eq.mp hk)
   rw [show cells.lookup n=some c from e]
   exact Qbi r _ fun y hy=>h y (List.mem_cons_of_mem _ hy)
  ·rw [if_neg hk]
   exact Qbi r _ fun y hy=>h y (List.mem_cons_of_mem _ hy)
theorem Yu {cells:List (Str×Addr)}:∀(names:List (Str×NameKind)) (cs cl:List (Str×Addr)),clOf cells names cs=some cl->(∀ x c,cs.lookup x=some c->cells.lookup x=some c)->∀ x c,cl.lookup x=some c->cells.lookup x=some c
 | [],cs,cl,h,hc=>by cases h; exact hc
 | (n,k)::r,cs,cl,h,hc=>by
  unfold clOf at h
  by_cases hk:(k == .free)=true
  ·rw [if_pos hk] at h
   cases hl:cells.lookup n with
   | none=>rw [hl] at h; cases h
   | some a =>
    rw [hl] at h
    refine Yu r _ cl h fun x c e=>?_
    by_cases z:x=n
    ·subst z
     simp only [List.lookup,beq_self_eq_true] at e
     cases e
     exact hl
    ·have zb:(x == n)=false:=beq_eq_false_iff_ne.mpr z
     simp only [List.lookup,zb] at e
     exact hc x c e
  ·rw [if_neg hk] at h
   exact Yu r _ cl h hc
theorem QaW {cells:List (Str×Addr)}:∀(names:List (Str×NameKind)) (cs cl:List (Str×Addr)),clOf cells names cs=some cl->∀ x,(x∈names.filterMap fun y=>if (y.2 == .free)=true then some y.1 else none)∨(∃ c,cs.lookup x=some c)->∃ c,cl.lookup x=some c
 | [],cs,cl,h,x,hx=>by
  cases h
  rcases hx with hx | hx
  ·simp at hx
  ·exact hx
 | (n,k)::r,cs,cl,h,x,hx=>by
  unfold clOf at h
  by_cases hk:(k == .free)=true
  ·rw [if_pos hk] at h
   cases hl:cells.lookup n with
   | none=>rw [hl] at h; cases h
   | some a =>
    rw [hl] at h
    refine QaW r _ cl h x ?_
    by_cases z:x=n
    ·subst z
     exact .inr ⟨a,by simp [List.lookup]⟩
    ·have zb:(x == n)=false:=beq_eq_false_iff_ne.mpr z
     rcases hx with hx | ⟨c,hx⟩
     ·rw [List.filterMap_cons] at hx
      simp only [hk,if_true] at hx
      rcases List.mem_cons.mp hx with e | e
      ·exact absurd e z
      ·exact .inl e
     ·exact .inr ⟨c,by simp only [List.lookup,zb]; exact hx⟩
  ·rw [if_neg hk] at h
   refine QaW r _ cl h x ?_
   rcases hx with hx | hx
   ·rw [List.filterMap_cons] at hx
    simp only [hk] at hx
    exact .inl (by simpa using hx)
   ·exact .inr hx
theorem Qbj {names:List (Str×NameKind)} {x:Str} (h:names.lookup x=some .free):x∈names.filterMap fun y=>if (y.2 == .free)=true then some y.1 else none :=
 List.mem_filterMap.mpr ⟨(x,.free),PySem.mem_of_lookup h,by simp⟩
theorem Ji {env:Env}:∀ {names:List (Str×NameKind)} {x:Str} {k:NameKind},(∀ y∈names,y.2≠.cell) ->
  (names.map fun(n,k)=>if (k == NameKind.free && env.scope.kind == .function && env.kindOf n == some .cell) then (n,NameKind.cell) else (n,k)).lookup x=some k->(k=.cell∨k=.free)->names.lookup x=some .free
 | [],_,_,_,h,_=>by cases h
 | (n,k0)::r,x,k,hn,h,hk=>by
  have ih:=@Ji env r x k fun y hy=>hn y (List.mem_cons_of_mem _ hy)
  rw [List.map_cons] at h
  by_cases hc:(k0 == NameKind.free && env.scope.kind == .function && env.kindOf n == some .cell)=true
  ·have k0f:k0=.free:=by
    simp only [Bool.and_eq_true] at hc
    exact beq_iff_eq.mp hc.1.1
   dsimp only at h
   rw [if_pos hc] at h
   cases hx:x == n with
   | true=>simp only [List.lookup,hx]; rw [k0f]
   | false=>simp only [List.lookup,hx] at h ⊢; exact ih h hk
  ·dsimp only at h
   rw [if_neg hc] at h
   cases hx:x == n with
   | true =>
    simp only [List.lookup,hx] at h ⊢
    cases h
    rcases hk with e | e
    ·exact absurd e (hn (n,k0) List.mem_cons_self)
    ·rw [e]
   | false=>simp only [List.lookup,hx] at h ⊢; exact ih h hk
theorem Qc0 {prog:Program} {w:World} {A:Around} {R:Result->Shared->Prop} {s:Shared} {elt target iter:Expr} {ifs:List Expr} {scope:Scope} {pos:Pos} {it acc:Value} {env:Env} (I:Nat->Shared->Prop)
  (turn:∀ n s,I n s->wpAny (model prog w) A (pyNext it) (fun r s₁=>match r with
   | none=>R (.ok .next) s₁
   | some v=>wpAny (model prog w) A (letOwnedTupleGo target it v) (fun _ s1'=>wpAny (model prog w) A (assign target env v) (fun _ s₂ =>
     wpAny (model prog w) A (forIn ifs true fun c r=>if r=true then do let ok ← isTrue c env (eval c env); pure (ForInStep.yield ok) else pure (ForInStep.yield r)) (fun ok s₃ =>
      if ok=true then wpAny (model prog w) A (eval elt env) (fun x s₄ =>
       wpAny (model prog w) A (call (.builtin "list.append") [acc,x]) (fun _ s₅=>∃ m,m<n∧I m s₅) (fun _ _=>False) s₄) (fun _ _=>False) s₃
      else ∃ m,m<n∧I m s₃) (fun _ _=>False) s₂) (fun _ _=>False) s1') (fun _ _=>False) s₁) (fun _ _=>False) s)
  (n:Nat) (h:I n s):codeAny (model prog w) A (.compLoop (.ListComp elt [⟨target,iter,ifs,0⟩] scope pos) 0 it acc env) R s:=by
 refine codeAny_loop rfl I (fun n s hI=>?_) n h
 show wpAny _ A ((compTurn (.ListComp elt [⟨target,iter,ifs,0⟩] scope pos) 0 it acc env).onRaise (fun x=>do noteFrame x env; theTreesLotGoes x)) _ _ s
 refine wpAny_noted ?_
 rw [compTurn_list]
 refine wpAny_bind (wpAny_standAt (wpAny_bind (wpAny_mono (turn n s hI) (fun r s₁ h₁=>?_) fun _ _ h'=>h'.elim)))
 cases r with
 | none=>exact wpAny_pure h₁
 | some v =>
  refine wpAny_bind (wpAny_mono h₁ (fun _ s1' h1'=>?_) fun _ _ h'=>h'.elim)
  refine wpAny_bind (wpAny_mono h1' (fun _ s₂ h₂=>wpAny_bind (wpAny_mono h₂ (fun ok s₃ h₃=>?_) fun _ _ h'=>h'.elim)) fun _ _ h'=>h'.elim)
  cases ok with
  | false=>exact wpAny_pure ⟨rfl,h₃⟩
  | true =>
   exact wpAny_bind (wpAny_bind (wpAny_mono h₃ (fun x s₄ h₄=>wpAny_bind (wpAny_mono h₄ (fun _ s₅ h₅=>wpAny_pure (wpAny_pure ⟨rfl,h₅⟩)) fun _ _ h'=>h'.elim)) fun _ _ h'=>h'.elim))
theorem Inv.track {X:Cx} {pins:List (Addr×Obj)} {σ:L2.St} {H:Hp} {s:Shared} {a:Addr} {o:HO} (I:Inv X pins σ H s) (ha:FpOk X pins H a) (new:ObjOk X.prog X.w (upd H a o) s.heap a o):Inv X pins σ (upd H a o) s:=by
 obtain⟨f0,f1,f2,f3,f4,f5⟩:=ha
 have ne:∀ b u,H b=some u->b≠a:=fun b u e=>QO e f0
 refine I.step (h':=s.heap) (g':=s.gens) (t':=s.toks) (d':=s.drawn) (ch:=[a]) (fun b hb=>?_) (fun b o _ _ _ e _=>e) (fun b o _ _ _ e _=>⟨o.slots,e⟩) (fun b o hb e n=>?_) (fun b o _ e=>⟨o,e⟩)
  (fun b xs e=>by rw [Qx (ne b _ e)]; exact e) (fun b o u e=>by rw [Qx (ne b _ e)]; exact e) (fun b ps e=>⟨#[],by rw [Qx (ne b _ e),e]; simp⟩) (fun _ h=>h) (fun b u e=>?_) I.bare
 ·have e:b=a:=by simpa using hb
  subst e
  exact⟨f3,f1,f4,f5⟩
 ·rw [Qx (fun z=>hb (by simp [z]))]; exact n
 ·by_cases hb:b=a
  ·subst hb; rw [Qu] at e; cases e; exact new
  ·rw [Qx hb] at e
   exact(I.hok b u e).stay (fun _ _ _ q=>q) (fun c q=>by rw [Qx (ne c _ q)]; exact q) fun c xs q=>by rw [Qx (ne c _ q)]; exact q
theorem FpOk.mono {X:Cx} {pins:List (Addr×Obj)} {H H':Hp} {b:Addr} (h:FpOk X pins H b) (n:H' b=none):FpOk X pins H' b:=⟨n,h.2⟩
noncomputable abbrev F0:XS:=fun _ _ _=>False
theorem noX {α:Type} {M:Model} {A:Around} {X:Cx} {ca:Nat->Addr} {t:Sem α} {Q:α->Shared->Prop} {s:Shared} (h:wpAny M A t Q (XE X ca F0) s):wpAny M A t Q (fun _ _=>False) s:=wpAny_mono h (fun _ _ z=>z) fun _ _ ⟨_,_,_,_,_,_,_,z⟩=>z
noncomputable def PIf (ca:Nat->Addr) (X:Cx) (ifs:List Expr) (m:MT):Prop :=
 ∀(pins:List (Addr×Obj)) (s:Shared) (σ:L2.St) (H:Hp) (Q:Bool->Hp->Prop),Inv (xat X ca [] F0) pins σ H s->upT X.K ca F0 m σ H Q ->
  wpAny (model X.prog X.w) X.A (forIn ifs true fun c r=>if r=true then do let ok ← isTrue c X.env (eval c X.env); pure (ForInStep.yield ok) else pure (ForInStep.yield r)) (TP (xat X ca [] F0) pins σ Q) (fun _ _=>False) s
theorem QfU {X:Cx} {ca:Nat->Addr}:PIf ca X [] Jb:=by
 intro pins s σ H Q I ⟨_,_,μ,R,p⟩
 rw [List.forIn_nil]
 exact wpAny_pure ⟨H,I,p H μ .refl R.g⟩
end L3
end
section
namespace L3
open PySem PySem.Spec PyProof.Rows L2
section
variable {X:Cx} {ca:Nat->Addr} {pn:List (Addr×Obj)}
theorem Qke {scope:Scope} {Nb:List Str} {no:Nat} {cap:List Nat} {cl:List (Str×Addr)} {pins:List (Addr×Obj)} {σ:L2.St} {H:Hp} {s:Shared} {ex:List Addr} (B:BScope X scope Nb no cap) (hcl:clOf X.env.cells scope.names []=some cl)
  (I:Inv (xat X ca pn F0) pins σ H s) (hex:∀ b∈ex,FpOk (xat X ca pn F0) pins H b) (hlt:∀ b∈ex,b<s.heap.objs.size):(xat (blk X scope cl s.heap.objs.size Nb s H ex) ca [] F0).Ok where
 mod:=I.ok.mod
 kind:=B.kind
 glob:=I.ok.glob
 blt:=I.ok.blt
 above:=Nat.le_refl _
 inj:=fun x y c h1 h2=>I.ok.inj x y c (Yu _ _ _ hcl (fun _ _ z=>by cases z) x c h1) (Yu _ _ _ hcl (fun _ _ z=>by cases z) y c h2)
 has:=fun x hx=>QaW _ _ _ hcl x (.inl (Qbj (by
  rcases hx with hx | hx
  ·exact Ji B.cell hx (.inl rfl)
  ·exact Ji B.cell hx (.inr rfl))))
 cab:=fun _ _ z=>by cases z
 hd:=I.ok.hd
 frames:=I.ok.frames
 stk:=.inl rfl
 exf:=fun b hb=>⟨Nat.ne_of_lt (hlt b hb),fun x c e z=>(hex b hb).2.2.2.2.1 x c (Yu _ _ _ hcl (fun _ _ z=>by cases z) x c e) z⟩
 bs:=I.bs
 bsz:=Nat.le_trans I.ok.bsz I.sz
 noex:=fun b o e hb=>by
  rcases(hex b hb).2.2.2.1 with z | z
  ·exact I.ok.noex b o e z
  ·exact absurd (Nat.lt_of_lt_of_le (Heap.lt_size e) (Nat.le_trans I.ok.bsz z)) (Nat.lt_irrefl _)
 exfs:=fun b hb z=>by
  rcases List.mem_cons.mp (I.stkSub b z) with e | e
  ·exact(hex b hb).2.1 e
  ·exact(hex b hb).2.2.1 e
 funs:=I.stack
 frf:=I.stkFree
theorem YK {env:Env}:∀ {names:List (Str×NameKind)} {x:Str},names.lookup x=some .free ->
  (names.map fun(n,k)=>if (k == NameKind.free && env.scope.kind == .function && env.kindOf n == some .cell) then (n,NameKind.cell) else (n,k)).lookup x=some .local->False
 | [],_,h,_=>by cases h
 | (n,k0)::r,x,h,h'=>by
  have ih:=@YK env r x
  rw [List.map_cons] at h'
  dsimp only at h'
  by_cases hc:(k0 == NameKind.free && env.scope.kind == .function && env.kindOf n == some .cell)=true
  ·rw [if_pos hc] at h'
   cases hx:x == n with
   | true=>simp only [List.lookup,hx] at h'; cases h'
   | false=>simp only [List.lookup,hx] at h h'; exact ih h h'
  ·rw [if_neg hc] at h'
   cases hx:x == n with
   | true=>simp only [List.lookup,hx] at h h'; rw [h'] at h; cases h
   | false=>simp only [List.lookup,hx] at h h'; exact ih h h'
theorem Qhd {K:PySem.W.Frag} {ca:Nat->Addr} {μ2:List Addr} {σ3:S3} {g1:G} {σ:L2.St} {H2:Hp} (no:Nat) (cap:List Nat) (R2:Rep K ca μ2 σ3 g1 σ H2):Rep K ca μ2 (capt no cap σ3) g1 (List.replicate no none++cap.map fun i=>(σ[i]?).getD none) H2:=by
 refine⟨R2.g,?_,fun i d h=>?_⟩
 ·unfold capt
  rw [List.length_append,List.length_append,List.length_replicate,List.length_replicate,List.length_map,List.length_map]
 ·unfold capt at h
  have hi:no≤i:=by
   apply Nat.le_of_not_lt
   intro hlt
   rw [List.getElem?_append_left (by simpa using hlt),List.getElem?_replicate,if_pos hlt] at h
   cases h
  rw [List.getElem?_append_right (by simpa using hi),List.length_replicate,List.getElem?_map] at h ⊢
  cases hcp:cap[i - no]? with
  | none=>rw [hcp] at h; cases h
  | some j =>
   rw [hcp] at h
   have h:(σ3[j]?).getD none=some d:=by simpa using h
   have hs:σ3[j]?=some (some d):=by
    cases z:σ3[j]? with
    | none=>rw [z] at h; cases h
    | some w=>rw [z] at h; have h:w=some d:=h; rw [h]
   obtain⟨v,h1,h2⟩:=R2.st j d hs
   exact⟨v,by simp [h1],h2⟩
theorem QfV {tg iter elt:Expr} {ifs:List Expr} {scope:Scope} {pos:Pos} {Nb:List Str} {no:Nat} {cap:List Nat} {cl:List (Str×Addr)} {f:MG} {tc:MT} {me:ME} {src:Src}
  {pins:List (Addr×Obj)} {σ:L2.St} {σ3:S3} {H2:Hp} {s2:Shared} {μ2:List Addr} {g1 g2:G} {ds:List D} {it:Addr} {fp:List Addr} {tn:Nat->Heap->Prop} {J:It} {RR:Value->Addr->Result->Shared->Prop} {E:Value->Shared->Prop}
  (B:BScope X scope Nb no cap) (hc:X.calm=true)
  (hb:∀ cl C s3 H3 ex,PG3 ca (blk X scope cl C Nb s3 H3 ex) tg f∧PIf ca (blk X scope cl C Nb s3 H3 ex) ifs tc∧PE3 ca (blk X scope cl C Nb s3 H3 ex) elt me)
  (hcl:clOf X.env.cells scope.names []=some cl)
  (I2:Inv (xat X ca pn F0) pins σ H2 s2) (T:Turn X.prog X.w X.K tg J fp it tn) (st2:tn 0 s2.heap) (f2:∀ b∈fp,FpOk (xat X ca pn F0) pins H2 b) (R2:Rep X.K ca μ2 σ3 g1 σ H2) (sim:Sim X.K ca μ2 H2 src J)
  (hz:src.top≤SZ) (hL:Ja src f tc me (src.top+1) 0 (capt no cap σ3) g1 []=.ok ds g2)
  (fin:∀(D C:Addr) (s':Shared) (H4:Hp) (μ4:List Addr) (accV:List V) (its:List Value) (k:Nat),Inv (xat X ca pn F0) pins σ H4 s'->(∃ m,s'.heap.Ns C m)->FpOk (xat X ca pn F0) pins H4 C->FpOk (xat X ca pn F0) pins H4 D->D≠C ->
   s'.heap.get? D=some { cls:=.type "list",data:=.seq its.toArray k }->Vals accV its->accV.length≤sizeLine->Ext X.K μ2 H2 μ4 H4->GRep X.K ca μ4 H4 g2->Dens X.K μ4 H4 accV ds->RR (.ref D) C (.ok .next) s') :
  wpAny (model X.prog X.w) X.A (newList []) (fun acc s₃=>wpAny (model X.prog X.w) X.A (newFunctionEnv scope X.env.globals cl [] X.env.qual none .none (some X.env)) (fun cenv s₄ =>
   codeAny (model X.prog X.w) X.A (.compStart (.ListComp elt [⟨tg,iter,ifs,0⟩] scope pos) 0 (.ref it) acc { cenv with scope:=relabel scope X.env }) (RR acc cenv.locals) s₄) E s₃) E s2:=by
 refine wpAny_newObj_type (wpAny_newFunctionEnv B.cell (by intro y hy; simp at hy) (fun h₁ hns₁ hsb₁=>?_) B.kind)
 dsimp only at hns₁ hsb₁ ⊢
 generalize hH2:s2.heap.push { cls:=.type "list",dict:=none,data:=.seq ([]:List Value).toArray }=hp at hns₁ hsb₁ ⊢
 have hC:hp.objs.size=s2.heap.objs.size+1:=by rw [← hH2,Heap.size_push]
 have I3:Inv (xat X ca pn F0) pins σ H2 { s2 with heap:=hp }:=by rw [← hH2]; exact I2.kept (t':=s2.toks) fun b o e=>Heap.get?_push_of_some _ e
 have hD3:hp.get? s2.heap.objs.size=some { cls:=.type "list",data:=.seq ([]:List Value).toArray }:=by rw [← hH2]; exact Heap.get?_push_size _ rfl
 have fD:FpOk (xat X ca pn F0) pins H2 s2.heap.objs.size:=I2.fpOk (Nat.le_refl _) (I2.hok.fresh (Nat.le_refl _))
 have fC:FpOk (xat X ca pn F0) pins H2 hp.objs.size:=I3.fpOk (Nat.le_refl _) (I3.hok.fresh (Nat.le_refl _))
 have fplt:∀ b∈fp,b<s2.heap.objs.size:=fun b hb=>by
  obtain⟨o,e,_⟩:=T.obj 0 _ st2 b hb
  exact Heap.lt_size e
 have DnF:s2.heap.objs.size∉fp:=fun h=>Nat.lt_irrefl _ (fplt _ h)
 have DnC:s2.heap.objs.size≠hp.objs.size:=by rw [hC]; exact Nat.ne_of_lt (Nat.lt_succ_self _)
 have exOk:∀ b∈s2.heap.objs.size::fp,FpOk (xat X ca pn F0) pins H2 b:=fun b hb=>by
  rcases List.mem_cons.mp hb with e | e
  ·rw [e]; exact fD
  ·exact f2 b e
 have exLt:∀ b∈s2.heap.objs.size::fp,b<hp.objs.size:=fun b hb=>by
  rcases List.mem_cons.mp hb with e | e
  ·rw [e,hC]; exact Nat.lt_succ_self _
  ·rw [hC]; exact Nat.lt_succ_of_lt (fplt b e)
 have okb:(xat (blk X scope cl hp.objs.size Nb { s2 with heap:=hp } H2 (s2.heap.objs.size::fp)) ca [] F0).Ok:=Qke (s:={ s2 with heap:=hp }) B hcl I3 exOk exLt
 obtain⟨hgB,hiB,heB⟩:=hb cl hp.objs.size { s2 with heap:=hp } H2 (s2.heap.objs.size::fp)
 have old:∀ b o,hp.get? b=some o->h₁.get? b=some o:=fun b o e=>hsb₁.extBut b o (Nat.ne_of_lt (Heap.lt_size e)) (Heap.get?_push_of_some _ e)
 -- the block's first state
 have Ib:Inv (xat (blk X scope cl hp.objs.size Nb { s2 with heap:=hp } H2 (s2.heap.objs.size::fp)) ca [] F0) [] (List.replicate no none++cap.map fun i=>(σ[i]?).getD none) H2 { s2 with heap:=h₁,toks:=s2.toks+([]:List (Str×Value)).length }:=by
  refine⟨okb,rfl,I3.bare,Un.kept old,⟨_,hns₁,fun i x v h1 h2 h3=>?_⟩,fun x c e=>?_,fC.1,fun x c e=>?_,fun p hp=>absurd (show p∈([]:List (Addr×Obj)) from hp) (by simp),I3.hok.kept old,?_⟩
  ·have hi:no≤i:=by
    apply Nat.le_of_not_lt
    intro hlt
    rw [List.getElem?_append_left (by simpa using hlt),List.getElem?_replicate,if_pos hlt] at h2
    cases h2
   rw [List.getElem?_append_right (by simpa using hi),List.length_replicate,List.getElem?_map] at h2
   cases hcp:cap[i - no]? with
   | none=>rw [hcp] at h2; cases h2
   | some j =>
    rw [hcp] at h2
    have h2:(σ[j]?).getD none=some v:=by simpa using h2
    have hs:σ[j]?=some (some v):=by
     cases z:σ[j]? with
     | none=>rw [z] at h2; cases h2
     | some w=>rw [z] at h2; have h2:w=some v:=h2; rw [h2]
    obtain⟨y,n1,n2,n3,n4,n5⟩:=B.cap (i - no) j hcp
    have e0:no+(i - no)=i:=by omega
    rw [e0] at n1
    have h1:Nb[i]?=some x:=h1
    have hxy:y=x:=Option.some.inj (n1.symm.trans h1)
    subst hxy
    obtain⟨m,hn,hl⟩:=I3.loc
    obtain⟨u,ru,lk⟩:=hl j y v n2 hs n4
    refine⟨u,ru,.inr ⟨?_,?_⟩⟩
    ·rcases h3 with z | z | z
     ·exact(YK n3 z).elim
     ·exact .inl z
     ·exact .inr z
    ·rcases lk with⟨k1,_⟩ | ⟨_,c,k2,k3⟩
     ·exact absurd k1 n5
     ·obtain⟨c',hc'⟩:=QaW _ _ _ hcl y (.inl (Qbj n3))
      have:=Yu _ _ _ hcl (fun _ _ z=>by cases z) y c' hc'
      have k2:X.env.cells.lookup y=some c:=k2
      have hcc:c'=c:=Option.some.inj (this.symm.trans k2)
      subst hcc
      exact⟨c',hc',k3.keeps old⟩
  ·obtain⟨v,z⟩:=I3.cell x c (Yu _ _ _ hcl (fun _ _ z=>by cases z) x c e)
   exact⟨v,z.keeps old⟩
  ·exact I3.freeC x c (Yu _ _ _ hcl (fun _ _ z=>by cases z) x c e)
  ·rw [List.length_append,List.length_replicate,List.length_map]; exact B.len.symm
 have RbR:=Qhd no cap R2
 have eK:(xat (blk X scope cl hp.objs.size Nb { s2 with heap:=hp } H2 (s2.heap.objs.size::fp)) ca [] F0).K=X.K:=rfl
 have eP:(xat (blk X scope cl hp.objs.size Nb { s2 with heap:=hp } H2 (s2.heap.objs.size::fp)) ca [] F0).prog=X.prog:=rfl
 have eW:(xat (blk X scope cl hp.objs.size Nb { s2 with heap:=hp } H2 (s2.heap.objs.size::fp)) ca [] F0).w=X.w:=rfl
 have eA:(xat (blk X scope cl hp.objs.size Nb { s2 with heap:=hp } H2 (s2.heap.objs.size::fp)) ca [] F0).A=X.A:=rfl
 have eE:(xat (blk X scope cl hp.objs.size Nb { s2 with heap:=hp } H2 (s2.heap.objs.size::fp)) ca [] F0).env=compEnvC scope cl hp.objs.size X.env:=rfl
 have eC:(xat (blk X scope cl hp.objs.size Nb { s2 with heap:=hp } H2 (s2.heap.objs.size::fp)) ca [] F0).calm=true:=hc
 have eX:∀ b∈s2.heap.objs.size::fp,b∈(xat (blk X scope cl hp.objs.size Nb { s2 with heap:=hp } H2 (s2.heap.objs.size::fp)) ca [] F0).ex:=fun b hb=>hb
 have eN:∀ {pl:List (Addr×Obj)} {p:Addr×Obj},p∈(xat (blk X scope cl hp.objs.size Nb { s2 with heap:=hp } H2 (s2.heap.objs.size::fp)) ca [] F0).pn++pl->p∈pl:=fun h=>h
 have toUn:∀ {pl:List (Addr×Obj)} {σ':L2.St} {H':Hp} {s':Shared},Inv (xat (blk X scope cl hp.objs.size Nb { s2 with heap:=hp } H2 (s2.heap.objs.size::fp)) ca [] F0) pl σ' H' s'->Un (frs (xat X ca pn F0).stack) (s2.heap.objs.size::fp) H2 H' hp s'.heap:=fun I=>I.base
 have toOs:∀ {pl:List (Addr×Obj)} {σ':L2.St} {H':Hp} {s':Shared},Inv (xat (blk X scope cl hp.objs.size Nb { s2 with heap:=hp } H2 (s2.heap.objs.size::fp)) ca [] F0) pl σ' H' s'->s'.os=s2.os:=fun I=>I.os
 generalize blk X scope cl hp.objs.size Nb { s2 with heap:=hp } H2 (s2.heap.objs.size::fp)=Xb at okb hgB hiB heB Ib eK eP eW eA eE eC eX eN toUn toOs
 -- the iterator's records,through the block
 have FpB:∀ {H:Hp} {pl:List (Addr×Obj)},(∀ b∈fp,H b=none)->(∀ p∈pl,p.1∉fp)->∀ b∈fp,FpOk (xat Xb ca [] F0) pl H b:=fun {H pl} hn hpl b hb=>by
  have e0:=okb.exf b (eX b (List.mem_cons_of_mem _ hb))
  refine⟨hn b hb,e0.1,?_,.inl (eX b (List.mem_cons_of_mem _ hb)),e0.2,fun p hp z=>?_⟩
  ·exact okb.exfs b (eX b (List.mem_cons_of_mem _ hb))
  ·have hp':p∈pl:=eN hp
   exact hpl p hp' (z ▸ hb)
 have FpD:∀ {H:Hp},H s2.heap.objs.size=none->FpOk (xat Xb ca [] F0) [] H s2.heap.objs.size:=fun {H} hn=>by
  have e0:=okb.exf s2.heap.objs.size (eX _ List.mem_cons_self)
  refine⟨hn,e0.1,?_,.inl (eX _ List.mem_cons_self),e0.2,fun p hp=>?_⟩
  ·exact okb.exfs s2.heap.objs.size (eX _ List.mem_cons_self)
  ·exact absurd (eN hp) (by simp)
 have st4:tn 0 h₁:=T.keep _ _ _ st2 fun b hb o e=>old b o (by rw [← hH2]; exact Heap.get?_push_of_some _ e)
 -- the invariant
 have loop:∀ s4:Shared,s4 = { s2 with heap:=h₁,toks:=s2.toks+([]:List (Str×Value)).length } ->
   codeAny (model X.prog X.w) X.A (.compLoop (.ListComp elt [⟨tg,iter,ifs,0⟩] scope pos) 0 (.ref it) (.ref s2.heap.objs.size) (compEnvC scope cl hp.objs.size X.env)) (RR (.ref s2.heap.objs.size) hp.objs.size) s4:=by
  rintro s4 rfl
  refine Qc0 (fun n s'=>∃(i:Nat) (σ4:S3) (g4:G) (μ4:List Addr) (σ5:L2.St) (H4:Hp) (acc:List D) (accV:List V) (its:List Value) (k:Nat),Inv (xat Xb ca [] F0) [] σ5 H4 s'∧tn i s'.heap∧(∀ b∈fp,H4 b=none)∧H4 s2.heap.objs.size=none ∧
   s'.heap.get? s2.heap.objs.size=some { cls:=.type "list",data:=.seq its.toArray k }∧Vals accV its∧Ext X.K μ2 H2 μ4 H4∧Rep X.K ca μ4 σ4 g4 σ5 H4∧Dens X.K μ4 H4 accV acc∧Ja src f tc me n i σ4 g4 acc=.ok ds g2 ∧
   acc.length≤i∧i+n≤SZ+1) ?_ (src.top+1) ⟨0,capt no cap σ3,g1,μ2,_,H2,[],[],[],_,Ib,st4,fun b hb=>(f2 b hb).1,fD.1,old _ _ hD3,.nil,.refl,RbR,.nil,hL,Nat.le_refl _,by omega⟩
  rintro n s5 ⟨i,σ4,g4,μ4,σ5,H4,acc,accV,its,k,I5,st5,fr5,frD,hD5,va,e5,R5,da,hl5,ha5,hn5⟩
  cases n with
  | zero=>cases hl5
  | succ n =>
   unfold Ja at hl5
   have s1:=sim i H4 μ4 g4 e5 R5.g
   have pinD:Inv (xat Xb ca [] F0) [(s2.heap.objs.size,{ cls:=.type "list",data:=.seq its.toArray k })] σ5 H4 s5:=I5.pins_of fun p hp=>by
    rw [List.mem_singleton.mp hp]
    have z:=FpD frD
    exact⟨hD5,frD,z.2.1,z.2.2.1,fun v q=>by cases q⟩
   have nofp:∀ p∈[(s2.heap.objs.size,({ cls:=.type "list",data:=.seq its.toArray k }:Obj))],p.1∉fp:=fun p hp=>by rw [List.mem_singleton.mp hp]; exact DnF
   have getD:∀ {σ':L2.St} {H':Hp} {s':Shared} {pl:List (Addr×Obj)},Inv (xat Xb ca [] F0) ([(s2.heap.objs.size,({ cls:=.type "list",data:=.seq its.toArray k }:Obj))]++pl) σ' H' s'->s'.heap.get? s2.heap.objs.size=some { cls:=.type "list",data:=.seq its.toArray k }∧H' s2.heap.objs.size=none:=fun {σ' H' s' pl} I'=>by
    have z:=I'.pin (s2.heap.objs.size,{ cls:=.type "list",data:=.seq its.toArray k }) (List.mem_append_right _ (List.mem_append_left _ (List.mem_singleton.mpr rfl)))
    exact⟨z.1,z.2.1⟩
   cases hat:src.at' g4 i with
   | none=>rw [hat] at hl5; cases hl5
   | some od =>
    rw [hat] at hl5 s1
    cases od with
    | none =>
     cases hl5
     have dn:=T.done (xat Xb ca [] F0) eP eW eK eC i _ s5 σ5 H4 (fun _ _=>False) pinD (FpB fr5 nofp) st5 s1
     rw [eA] at dn
     refine thn dn fun r s6 ⟨hr,I6⟩=>?_
     subst hr
     obtain⟨hD6,frD6⟩:=getD (pl:=[]) (by rw [List.append_nil]; exact I6)
     have un:Un (frs (xat X ca pn F0).stack) (s2.heap.objs.size::fp) H2 H4 hp s6.heap:=toUn I6
     have hok:HOk (xat X ca pn F0).prog (xat X ca pn F0).w H4 s6.heap:=by have:=I6.hok; rw [eP,eW] at this; exact this
     have os:s6.os=s2.os:=toOs I6
     have I7:Inv (xat X ca pn F0) pins σ H4 s6:=Inv.call' (s':=s6) (ch:=s2.heap.objs.size::fp) I3 os un hok I6.bare fun b hb=>⟨(exOk b hb).2.2.2.1,(exOk b hb).2.1,(exOk b hb).2.2.2.2.1,(exOk b hb).2.2.2.2.2⟩
     have hCn:H4 hp.objs.size=none:=by have:=I6.free; rw [eE] at this; exact this
     have nsC:∃ m,s6.heap.Ns hp.objs.size m:=by obtain⟨m,hm,_⟩:=I6.loc; rw [eE] at hm; exact⟨m,hm⟩
     refine fin _ _ s6 H4 μ4 accV its k I7 nsC (FpOk.mono fC hCn) (FpOk.mono fD frD6) DnC hD6 va ?_ e5 R5.g da
     rw [da.length]
     have:=Jg
     omega
    | some d =>
     obtain⟨go,yl⟩:=s1
     dsimp only at hl5
     cases hf:f d σ4 with
     | none=>rw [hf] at hl5; cases hl5
     | some σ6 =>
      rw [hf] at hl5
      dsimp only at hl5
      have im:=T.item (xat Xb ca [] F0) eP eW eK eC i _ s5 σ5 H4 (fun _ _=>False) pinD (FpB fr5 nofp) st5 go
      rw [eA] at im
      refine thn im fun r s6 ⟨u,hr,h6⟩=>?_
      subst hr
      refine thn h6 fun _ s7 ⟨x,H7,I7,r7,y7,st7,fr7⟩=>?_
      obtain⟨e7,g7,q7⟩:=yl x H7 y7
      have I7':=I7.pinned (FpB fr7 nofp) (T.obj _ _ st7)
      have R7:=R5.go e7 g7
      have asg:=hgB [] F0 _ s7 σ5 H7 x u (fun σ' H'=>H'=H7∧Rep X.K ca μ4 σ6 g4 σ' H7) I7' r7 (by
       have:Xb.K=X.K:=eK
       rw [this]
       exact⟨σ4,g4,μ4,d,σ6,R7,q7,hf,fun σ' R'=>⟨rfl,R'⟩⟩)
      rw [eP,eW,eA,eE] at asg
      refine thn (noX asg) fun _ s8 ⟨σ8,H8,I8,e8,R8⟩=>?_
      subst e8
      cases ht:tc σ6 g4 with
      | raise _ _=>rw [ht] at hl5; cases hl5
      | stuck=>rw [ht] at hl5; cases hl5
      | ok b g9 =>
       rw [ht] at hl5
       have hl5:(if b=true then (match me σ6 g9 with | .ok y g2=>Ja src f tc me n (i+1) σ6 g2 (acc++[y]) | _=>.stuck) else Ja src f tc me n (i+1) σ6 g9 acc)=.ok ds g2:=hl5
       have tst:=hiB _ s8 σ8 _ (fun b' H'=>b'=b∧∃ μ9,Ext X.K μ4 H8 μ9 H'∧Rep X.K ca μ9 σ6 g9 σ8 H') I8 (by
        have:Xb.K=X.K:=eK
        rw [this]
        refine⟨σ6,g4,μ4,R8,?_⟩
        rw [ht]
        exact fun H' μ' e' r'=>⟨rfl,μ',e',R8.go e' r'⟩)
       have eP':Xb.prog=X.prog:=eP
       have eW':Xb.w=X.w:=eW
       have eA':Xb.A=X.A:=eA
       have eE':Xb.env=compEnvC scope cl hp.objs.size X.env:=eE
       rw [eP',eW',eA',eE'] at tst
       refine thn tst fun ok s9 ⟨H9,I9,eb,μ9,e9,R9⟩=>?_
       subst eb
       have again:∀ {σ':L2.St} {H':Hp} {s':Shared},Inv (xat Xb ca [] F0) ([(s2.heap.objs.size,({ cls:=.type "list",data:=.seq its.toArray k }:Obj))]++QcK fp s7.heap) σ' H' s'->Inv (xat Xb ca [] F0) [] σ' H' s'∧tn (i+1) s'.heap∧∀ b∈fp,H' b=none:=fun {σ' H' s'} I'=>by
        refine⟨I'.pins_of fun p hp=>absurd hp (by simp),T.keep _ _ _ st7 fun b hb o e=>(I'.pin (b,o) (List.mem_append_right _ (List.mem_append_right _ (Jt hb e)))).1,fun b hb=>?_⟩
        obtain⟨o,e,_⟩:=T.obj _ _ st7 b hb
        exact(I'.pin (b,o) (List.mem_append_right _ (List.mem_append_right _ (Jt hb e)))).2.1
       cases ok with
       | false =>
        rw [if_neg Bool.false_ne_true] at hl5 ⊢
        obtain⟨J1,J2,J3⟩:=again I9
        obtain⟨K1,K2⟩:=getD I9
        refine⟨n,Nat.lt_succ_self n,i+1,σ6,g9,μ9,σ8,H9,acc,accV,its,k,J1,J2,J3,K2,K1,va,(e5.trans e7).trans e9,R9,(da.mono e7).mono e9,hl5,by omega,by omega⟩
       | true =>
        rw [if_pos rfl] at hl5 ⊢
        cases hm:me σ6 g9 with
        | raise _ _=>rw [hm] at hl5; cases hl5
        | stuck=>rw [hm] at hl5; cases hl5
        | ok y g10 =>
         rw [hm] at hl5
         have hl5:Ja src f tc me n (i+1) σ6 g10 (acc++[y])=.ok ds g2:=hl5
         have el:=heB [] F0 _ s9 σ8 H9 (fun vy H'=>∃ μ10,Ext X.K μ9 H9 μ10 H'∧Rep X.K ca μ10 σ6 g10 σ8 H'∧Den X.K μ10 H' vy y) I9 (by
          have:Xb.K=X.K:=eK
          rw [this]
          refine⟨σ6,g9,μ9,R9,?_⟩
          rw [hm]
          exact fun v H' μ' e' r' q'=>⟨μ',e',R9.go e' r',q'⟩)
         rw [eP,eW,eA,eE] at el
         refine thn (noX el) fun uy s10 ⟨vy,H10,I10,ry,μ10,e10,R10,qy⟩=>?_
         obtain⟨K1,K2⟩:=getD I10
         obtain⟨J1,J2,J3⟩:=again I10
         have hlen:its.length=acc.length:=by rw [← va.length,da.length]
         refine call_meets F.slot_list_append ⟨_,K1,rfl⟩ F.entry_list_append (F.args_list_append_2 _ _) (PySem.list_append s2.heap.objs.size its.toArray k uy (by rw [List.size_toArray,sizeLine_eq]; have:SZ=1000000:=rfl; omega)) ⟨K1,?_⟩
         have up:=PySem.IsL.update K1 (·.push uy)
         rw [show its.toArray.push uy=(its++[uy]).toArray by simp] at up
         have upo:∀ b o,b≠s2.heap.objs.size->s10.heap.get? b=some o->(s10.heap.update s2.heap.objs.size (Obj.mapSeq (·.push uy))).get? b=some o:=fun b o hb e=>(Heap.get?_update_other s10.heap (Obj.mapSeq (·.push uy)) (Ne.symm hb)).trans e
         obtain⟨d0,d1,d2,d3,d4,d5⟩:=FpD K2
         refine⟨n,Nat.lt_succ_self n,i+1,σ6,g10,μ10,σ8,H10,acc++[y],accV++[vy],its++[uy],_,J1.turned (t':=s10.toks) upo d0 d1 d3 d4 d5,T.keep _ _ _ J2 fun b hb o e=>upo b o (fun z=>DnF (z ▸ hb)) e,J3,K2,up,va.append (.cons ry .nil),
          ((e5.trans e7).trans e9).trans e10,R10,((da.mono e7).mono e9).mono e10 |>.append (.cons qy .nil),hl5,by rw [List.length_append,List.length_singleton]; omega,by omega⟩
 exact codeAny_compStart_list (loop _ rfl) (T.self _ 0 _ _ _ st4 (loop _ rfl))
end
end L3
end
section
namespace L3
open PySem PySem.Spec PyProof.Rows L2
section
variable {X:Cx} {ca:Nat->Addr}
theorem Qhe {K:PySem.W.Frag} {Φ:XS} {σ:L2.St} {Q:VK} {H:Hp} {μ:List Addr} {mi:MI} {no:Nat} {cap:List Nat} {f:MG} {tc:MT} {me:ME} {σ3:S3} {g:G} (p:Post K ca Φ σ Q H μ (JP mi no cap f tc me σ3 g)) :
  ∃ src g1 ds g2,mi σ3 g=.ok src g1∧src.top≤SZ∧Ja src f tc me (src.top+1) 0 (capt no cap σ3) g1 []=.ok ds g2∧Post K ca Φ σ Q H μ (.ok (.ref g2.length) (g2++[.lst ds])):=by
 unfold JP at p
 cases hm:mi σ3 g with
 | raise _ _=>rw [hm] at p; exact p.elim
 | stuck=>rw [hm] at p; exact p.elim
 | ok src g1 =>
  rw [hm] at p
  dsimp only at p
  by_cases hz:src.top≤SZ
  ·rw [if_pos hz] at p
   cases hL:Ja src f tc me (src.top+1) 0 (capt no cap σ3) g1 [] with
   | raise _ _=>rw [hL] at p; exact p.elim
   | stuck=>rw [hL] at p; exact p.elim
   | ok ds g2=>rw [hL] at p; exact⟨src,g1,ds,g2,rfl,hz,hL,p⟩
  ·rw [if_neg hz] at p; exact p.elim
theorem Qc1 {tg iter elt:Expr} {ifs:List Expr} {scope:Scope} {pos:Pos} {Nb:List Str} {no:Nat} {cap:List Nat} {mi:MI} {f:MG} {tc:MT} {me:ME}
  (B:BScope X scope Nb no cap) (hc:X.calm=true) (hi:PI3 ca X tg iter mi)
  (hb:∀ cl C s3 H3 ex,PG3 ca (blk X scope cl C Nb s3 H3 ex) tg f∧PIf ca (blk X scope cl C Nb s3 H3 ex) ifs tc∧PE3 ca (blk X scope cl C Nb s3 H3 ex) elt me)
  (hs:∀ x,foldedSetIterable iter X.env x=pure x:=by intro _; rfl):PE3 ca X (.ListComp elt [⟨tg,iter,ifs,0⟩] scope pos) (JP mi no cap f tc me):=by
 intro pn Φ pins s σ H Q I' ⟨σ3,g,μ,R,p⟩
 obtain⟨src,g1,ds,g2,hm,hz,hL,p⟩:=Qhe p
 have I:Inv (xat X ca pn F0) pins σ H s:=Inv.wish I' _
 suffices hh:wpAny (model X.prog X.w) X.A (eval (.ListComp elt [⟨tg,iter,ifs,0⟩] scope pos) X.env) (EP (xat X ca pn F0) pins σ Q) (fun _ _=>False) s from
  wpAny_mono hh (fun u s' ⟨v,H',J,r,q⟩=>⟨v,H',Inv.wish J _,r,q⟩) fun _ _ z=>z.elim
 obtain⟨cl,hcl⟩:=Qbi (cells:=X.env.cells) scope.names [] fun y hy hf=>I.ok.has y.1 (B.free y hy hf)
 rw [eval_ListComp]
 refine wpAny_comprehension_free (env:=X.env) (use:=none) rfl hs (Qcj hcl) B.kind B.loc ?_
 refine thn (noX (hi pn F0 pins s σ H (fun J H'=>∃ μ',Ext X.K μ H μ' H'∧GRep X.K ca μ' H' g1∧Sim X.K ca μ' H' src J) I ⟨σ3,g,μ,R,?_⟩)) fun v s1 h1=>thn (noX h1) fun itv s2 h2=>?_
 ·rw [hm]
  exact fun J H' μ' e r sm=>⟨μ',e,r,sm⟩
 ·obtain⟨it,fp,tn,J,H2,e,I2,T,st2,f2,μ2,e2,r2,sim⟩:=h2
  subst e
  refine QfV (X:=X) (pn:=pn) (RR:=fun acc C=>compPost (model X.prog X.w) X.A (fun _ _=>False) none (EP (xat X ca pn F0) pins σ Q) acc C) B hc hb hcl I2 T st2 f2 (R.go e2 r2) sim hz hL ?_
  intro D C s' H4 μ4 accV its k I4 nsC fC fD dc hD va hl e4 r4 da
  obtain⟨m,nsC⟩:=nsC
  refine⟨m,nsC,fun h'' hs''=>?_⟩
  have I5:Inv (xat X ca pn F0) pins σ H4 { s' with heap:=h'' }:=I4.turned (t':=s'.toks) (fun b o hb e=>hs''.extBut b o hb e) fC.1 fC.2.1 fC.2.2.2.1 fC.2.2.2.2.1 fC.2.2.2.2.2
  have hD':=hs''.extBut _ _ dc hD
  have I6:=Inv.track (o:=.lst accV) I5 fD ⟨hl,its,k,va,hD'⟩
  refine⟨.ref D,_,I6,rfl,p _ _ (μ4++[D]) ((e2.trans e4).trans (QB fD.1)) (r4.push fD.1 ⟨accV,Qu,da.mono (QB fD.1)⟩) (.ref ?_)⟩
  rw [← r4.len]; simp
end
end L3
end
section
namespace L3
open PySem PySem.Spec PyProof.Rows L2
section
variable {X:Cx} {ca:Nat->Addr} {a b:Expr} {ma mb:ME} {pos:Pos}
theorem Qhf:OpR X (binaryOp .Add) (fun x y H Q=>∃ a b ys,x=.ref a∧y=.ref b∧SqT X.K H a []∧SqT X.K H b ys∧Q (.ref b) H):=by
 intro pins s σ H x y v u Q I rx ry h
 obtain⟨a,b,ys,rfl,rfl,ha,hb,q⟩:=h
 cases rx
 cases ry
 obtain⟨us,r1,p1,_⟩:=I.tuple ha
 obtain⟨ts,r2,p2,_⟩:=I.tuple hb
 cases r1
 obtain⟨⟨cls,dd,data,sl⟩,ho,hc,n,hd⟩:=id p1
 obtain⟨⟨cls2,dd2,data2,sl2⟩,ho2,hc2,n2,hd2⟩:=id p2
 simp only at hc hd hc2 hd2
 subst hc hd hc2 hd2
 exact concat_meets ⟨_,ho,rfl⟩ ⟨_,ho2,rfl⟩ noFill_tuple_add seq_tuple_add PySem.F.slot_tuple_add PySem.F.entry_tuple_add (PySem.F.args_tuple_add_2 _ _)
   (tuple_addW0 a b _ _ n n2 dd dd2 sl sl2 (by simp)) ⟨ho,ho2,⟨.ref b,H,I,rfl,q⟩⟩
theorem Qhg {K:PySem.W.Frag}:Jc K ca (fun x y H Q=>(((∃ i j,x=.int i∧y=.int j∧Q (.int (i+j)) H)∨QjV K x y H Q)∨rCat x y H Q)∨(∃ a b ys,x=.ref a∧y=.ref b∧SqT K H a []∧SqT K H b ys∧Q (.ref b) H)) pAdd:=by
 intro Φ σ H μ g x y dx dy Q r qx qy p
 unfold pAdd at p
 cases qx with
 | int i =>
  cases qy with
  | int j=>exact .inl (.inl (.inl ⟨i,j,rfl,rfl,p _ H μ .refl r (.int _)⟩))
  | _=>exact p.elim
 | @tup ax xs dsx hx hsx =>
  cases qy with
  | @tup ay ys dsy hy hsy =>
   dsimp only at p
   by_cases z:dsx.length+dsy.length≤SZ
   ·rw [if_pos z] at p
    by_cases hx0:dsx=[]
    ·subst hx0
     cases hsx
     exact .inr ⟨ax,ay,ys,rfl,rfl,hx,hy,p _ H μ .refl r (.tup hy hsy)⟩
    ·refine .inl (.inl (.inr ⟨ax,ay,xs,ys,rfl,rfl,hx,hy,?_,by rw [hsx.length,hsy.length]; exact Nat.le_trans z Jg,fun e=>?_,fun _ t ht=>p _ _ μ (Q0 ht) (r.new ht) (.tup (.of Qu) ((hsx.append hsy).mono (Q0 ht)))⟩))
     ·rintro rfl
      cases hsx
      exact hx0 rfl
     ·subst e
      cases hsy
      rw [List.append_nil] at p
      exact p _ H μ .refl r (.tup hx hsx)
   ·rw [if_neg z] at p; exact p.elim
  | _=>exact p.elim
 | @ref n an hn =>
  cases qy with
  | @ref m am hm =>
   dsimp only at p
   cases hg:g[n]? with
   | none=>rw [hg] at p; exact p.elim
   | some o =>
    cases hg2:g[m]? with
    | none=>rw [hg,hg2] at p; cases o <;> exact p.elim
    | some o2 =>
     rw [hg,hg2] at p
     obtain⟨a1,ha1,or1⟩:=r.addr hg
     obtain⟨a2,ha2,or2⟩:=r.addr hg2
     rw [hn] at ha1; cases ha1
     rw [hm] at ha2; cases ha2
     cases o with
     | lst xs =>
      cases o2 with
      | lst ys =>
       dsimp only at p
       obtain⟨vs,hH,q⟩:=or1
       obtain⟨ws,hH2,q2⟩:=or2
       by_cases z:xs.length+ys.length≤SZ
       ·rw [if_pos z] at p
        refine .inl (.inr ⟨an,am,vs,ws,rfl,rfl,hH,hH2,by rw [q.length,q2.length]; exact Nat.le_trans z Jg,fun t ht=>p _ _ (μ++[t]) (QB ht) (r.push ht ⟨_,Qu,(q.append q2).mono (QB ht)⟩) (.ref ?_)⟩)
        rw [← r.len]; simp
       ·rw [if_neg z] at p; exact p.elim
      | _=>exact p.elim
     | _=>cases o2 <;> exact p.elim
  | _=>exact p.elim
 | _=>cases qy <;> exact p.elim
theorem Z5 (ha:PE3 ca X a ma) (hb:PE3 ca X b mb):PE3 ca X (.BinOp a .Add b pos) (mOp2 pAdd ma mb) :=
 QeP (fun _ _=>((op_add.or Qiy).or Qj1).or Qhf) Qhg ha hb
theorem Qdu {K:PySem.W.Frag} {C:Int->Int->Prop} {h:Int->Int->V} {f:D->D->G->Res D} (hf:∀ Φ σ i j g Q H μ,GRep K ca μ H g->Post K ca Φ σ Q H μ (f (.int i) (.int j) g)->C i j∧Q (h i j) H)
  (hn:∀ Φ σ x y g Q H μ,Post K ca Φ σ Q H μ (f x y g)->∃ i j,x=.int i∧y=.int j):Jc K ca (rI C h) f:=by
 intro Φ σ H μ g x y dx dy Q r qx qy p
 obtain⟨i,j,rfl,rfl⟩:=hn Φ σ dx dy g Q H μ p
 cases qx
 cases qy
 obtain⟨c,q⟩:=hf Φ σ i j g Q H μ r p
 exact⟨i,j,rfl,rfl,c,q⟩
theorem Qd9 {K:PySem.W.Frag} {h:Int->Int->V} {f:D->D->G->Res D} (hf:∀ Φ σ i j g Q H μ,GRep K ca μ H g->Post K ca Φ σ Q H μ (f (.int i) (.int j) g)->Q (h i j) H)
  (hn:∀ Φ σ x y g Q H μ,Post K ca Φ σ Q H μ (f x y g)->∃ i j,x=.int i∧y=.int j):Jc K ca (rI0 h) f:=by
 intro Φ σ H μ g x y dx dy Q r qx qy p
 obtain⟨i,j,rfl,rfl⟩:=hn Φ σ dx dy g Q H μ p
 cases qx
 cases qy
 exact⟨i,j,rfl,rfl,hf Φ σ i j g Q H μ r p⟩
theorem J7 {K:PySem.W.Frag} {f:D->D->G->Res D} (h:∀ x y g,(∃ i j,x=D.int i∧y=D.int j)∨f x y g=.stuck) (Φ:XS) (σ:L2.St) (x y:D) (g:G) (Q:VK) (H:Hp) (μ:List Addr) (p:Post K ca Φ σ Q H μ (f x y g)):∃ i j,x=.int i∧y=.int j:=by
 rcases h x y g with z | z
 ·exact z
 ·rw [z] at p; exact p.elim
theorem QbS (ha:PE3 ca X a ma) (hb:PE3 ca X b mb):PE3 ca X (.BinOp a .Sub b pos) (mOp2 pSub ma mb) :=
 QeP (fun _ _=>QjJ) (Qd9 (fun Φ σ i j g Q H μ r p=>p _ H μ .refl r (.int _)) (J7 fun x y g=>by cases x <;> cases y <;> first | exact .inl ⟨_,_,rfl,rfl⟩ | exact .inr rfl)) ha hb
theorem Yj (ha:PE3 ca X a ma) (hb:PE3 ca X b mb):PE3 ca X (.BinOp a .FloorDiv b pos) (mOp2 Zp ma mb) :=
 QeP (fun _ _=>Qio) (Qdu (fun Φ σ i j g Q H μ r p=>by
  unfold Zp at p
  by_cases z:0<j∧j<1073741824
  ·dsimp only at p; rw [if_pos z] at p; exact⟨z,p _ H μ .refl r (.int _)⟩
  ·dsimp only at p; rw [if_neg z] at p; exact p.elim) (J7 fun x y g=>by cases x <;> cases y <;> first | exact .inl ⟨_,_,rfl,rfl⟩ | exact .inr rfl)) ha hb
theorem ZH (ha:PE3 ca X a ma) (hb:PE3 ca X b mb):PE3 ca X (.BinOp a .Mod b pos) (mOp2 pMod ma mb) :=
 QeP (fun _ _=>QjK) (Qdu (fun Φ σ i j g Q H μ r p=>by
  unfold pMod at p
  by_cases z:0<j
  ·dsimp only at p; rw [if_pos z] at p; exact⟨z,p _ H μ .refl r (.int _)⟩
  ·dsimp only at p; rw [if_neg z] at p; exact p.elim) (J7 fun x y g=>by cases x <;> cases y <;> first | exact .inl ⟨_,_,rfl,rfl⟩ | exact .inr rfl)) ha hb
theorem Dens.rep {K:PySem.W.Frag} {μ:List Addr} {H:Hp} {vs:List V} {ds:List D} (h:Dens K μ H vs ds):∀ k:Nat,Dens K μ H (List.replicate k vs).flatten (List.replicate k ds).flatten
 | 0=>.nil
 | k+1=>by rw [List.replicate_succ,List.replicate_succ,List.flatten_cons,List.flatten_cons]; exact h.append (Dens.rep h k)
theorem Qhh {K:PySem.W.Frag}:Jc K ca (fun x y H Q=>(∃ i j,x=.int i∧y=.int j∧(cM i∨cM j)∧Q (.int (i*j)) H)∨rRep x y H Q) pMul:=by
 intro Φ σ H μ g x y dx dy Q r qx qy p
 unfold pMul at p
 cases qx with
 | int i =>
  cases qy with
  | int j =>
   dsimp only at p
   by_cases z:cM i∨cM j
   ·rw [if_pos z] at p; exact .inl ⟨i,j,rfl,rfl,z,p _ H μ .refl r (.int _)⟩
   ·rw [if_neg z] at p; exact p.elim
  | _=>exact p.elim
 | @ref n an hn =>
  cases qy with
  | int k =>
   dsimp only at p
   cases hg:g[n]? with
   | none=>rw [hg] at p; exact p.elim
   | some o =>
    rw [hg] at p
    obtain⟨a1,ha1,or1⟩:=r.addr hg
    rw [hn] at ha1; cases ha1
    cases o with
    | lst xs =>
     obtain⟨vs,hH,q⟩:=or1
     dsimp only at p
     by_cases z:(0≤k∧k<1073741824)∧xs.length*k.toNat≤SZ
     ·rw [if_pos z] at p
      refine .inr ⟨an,k,vs,rfl,rfl,hH,by omega,by omega,by rw [q.length]; exact Nat.le_trans z.2 Jg,fun t ht=>p _ _ (μ++[t]) (QB ht) (r.push ht ⟨_,Qu,(q.rep k.toNat).mono (QB ht)⟩) (.ref ?_)⟩
      rw [← r.len]; simp
     ·rw [if_neg z] at p; exact p.elim
    | _=>exact p.elim
  | _=>exact p.elim
 | _=>cases qy <;> exact p.elim
theorem Qck (ha:PE3 ca X a ma) (hb:PE3 ca X b mb):PE3 ca X (.BinOp a .Mult b pos) (mOp2 pMul ma mb) :=
 QeP (fun _ _=>op_mul.or Qj2) Qhh ha hb
theorem Qdv (ha:PE3 ca X a ma):PE3 ca X (.UnaryOp .USub a pos) (mOp1 pNeg ma) :=
 r_un (fun _ _=>QjM) (fun Φ σ H μ g x dx Q r qx p=>by
  cases qx with
  | int i=>exact⟨i,rfl,p _ H μ .refl r (.int _)⟩
  | _=>exact p.elim) ha
theorem YY {K:PySem.W.Frag} (r:Int->Int->Bool):Jc K ca (rI0 fun i j=>.bl (r i j)) (pCmp r) :=
 Qd9 (fun Φ σ i j g Q H μ r p=>p _ H μ .refl r (.bl _)) (J7 fun x y g=>by cases x <;> cases y <;> first | exact .inl ⟨_,_,rfl,rfl⟩ | exact .inr rfl)
theorem r_gt (ha:PE3 ca X a ma) (hb:PE3 ca X b mb):PE3 ca X (.Compare a [.Gt] [b] pos) (mOp2 pGt ma mb):=QfJ (fun _ _=>QjO) (YY _) ha hb (Jd b)
theorem r_ge (ha:PE3 ca X a ma) (hb:PE3 ca X b mb):PE3 ca X (.Compare a [.GtE] [b] pos) (mOp2 pGe ma mb):=QfJ (fun _ _=>QjP) (YY _) ha hb (Jd b)
theorem QiF (ha:PE3 ca X a ma) (hb:PE3 ca X b mb):PT3 ca X (.Compare a [.Lt] [b] pos) (Qh (mOp2 pLt ma mb)):=JQ (fun _ _=>QjN) (YY _) ha hb (Jd b)
theorem QbT (ha:PE3 ca X a ma) (hb:PE3 ca X b mb):PT3 ca X (.Compare a [.Gt] [b] pos) (Qh (mOp2 pGt ma mb)):=JQ (fun _ _=>QjO) (YY _) ha hb (Jd b)
theorem Qkf (ha:PE3 ca X a ma) (hb:PE3 ca X b mb):PT3 ca X (.Compare a [.GtE] [b] pos) (Qh (mOp2 pGe ma mb)):=JQ (fun _ _=>QjP) (YY _) ha hb (Jd b)
end
end L3
end
section
namespace L3
open PySem PySem.Spec PyProof.Rows L2
section
variable {X:Cx} {ca:Nat->Addr} {pins:List (Addr×Obj)} {σ:L2.St} {H:Hp} {s:Shared} {μ:List Addr} {g:G}
theorem QaX {eq:D->D->Option Bool}:∀(xs ys:List D) (b:Bool),eqGs eq xs ys=some b->∃ e:Nat->Bool,(∀(j:Nat) (x y:D),xs[j]?=some x->ys[j]?=some y->eq x y=some (e j)) ∧
  b=((List.range (min xs.length ys.length)).all e && (xs.length == ys.length))
 | [],[],b,h=>by cases h; exact⟨fun _=>true,fun j x y h=>by simp at h,by simp⟩
 | [],_::ys,b,h=>by cases h; exact⟨fun _=>true,fun j x y h=>by simp at h,by simp⟩
 | _::xs,[],b,h=>by cases h; exact⟨fun _=>true,fun j x y _ h=>by simp at h,by simp⟩
 | x::xs,y::ys,b,h=>by
  unfold eqGs at h
  cases h1:eq x y with
  | none=>rw [h1] at h; cases h
  | some c =>
   cases h2:eqGs eq xs ys with
   | none=>rw [h1,h2] at h; cases h
   | some d =>
    rw [h1,h2] at h
    cases h
    obtain⟨e,e1,e2⟩:=QaX xs ys d h2
    refine⟨fun j=>match j with | 0=>c | j+1=>e j,fun j x' y' hx hy=>?_,?_⟩
    ·cases j with
     | zero =>
      simp at hx hy
      subst hx hy
      exact h1
     | succ j =>
      simp at hx hy
      exact e1 j x' y' hx hy
    ·rw [List.length_cons,List.length_cons,Nat.add_min_add_right,List.range_succ_eq_map,List.all_cons,List.all_map,e2]
     simp [Function.comp_def,Bool.and_assoc]
theorem Qcl {A:Around} {eq:D->D->Option Bool} {vs ws:List V} {ds es:List D} {us ts:List Value} {e:Nat->Bool} (qv:Dens X.K μ H vs ds) (qw:Dens X.K μ H ws es) (rv:Vals vs us) (rw':Vals ws ts)
  (he:∀(j:Nat) (x y:D),ds[j]?=some x->es[j]?=some y->eq x y=some (e j))
  (ih:∀ {v w:V} {d d':D} {u t:Value} {b:Bool},Den X.K μ H v d->Den X.K μ H w d'->RelV v u->RelV w t->eq d d'=some b->SeqAt.EqAt A s u t b) :
  ∀(j:Nat) (h1:j<us.toArray.size) (h2:j<ts.toArray.size),SeqAt.EqAt A s us.toArray[j] ts.toArray[j] (e j):=by
 intro j h1 h2
 have l1:j<us.length:=by simpa using h1
 have l2:j<ts.length:=by simpa using h2
 have l3:j<vs.length:=by rw [rv.length]; exact l1
 have l4:j<ws.length:=by rw [rw'.length]; exact l2
 obtain⟨x,hx,qx⟩:=qv.getV (i:=j) (v:=vs[j]) (by simp [l3])
 obtain⟨y,hy,qy⟩:=qw.getV (i:=j) (v:=ws[j]) (by simp [l4])
 obtain⟨u,hu,ru⟩:=rv.get (i:=j) (x:=vs[j]) (by simp [l3])
 obtain⟨t,ht,rt⟩:=rw'.get (i:=j) (x:=ws[j]) (by simp [l4])
 have eu:us.toArray[j]=u:=by
  have:us[j]?=some us[j]:=by simp [l1]
  rw [this] at hu; simpa using hu
 have et:ts.toArray[j]=t:=by
  have:ts[j]?=some ts[j]:=by simp [l2]
  rw [this] at ht; simpa using ht
 rw [eu,et]
 exact ih qx qy ru rt (he j x y hx hy)
theorem QfW {A:Around} {eq:D->D->Option Bool} {a c:Addr} {vs ws:List V} {ds es:List D} {b:Bool} (hu:A.units<cLine) (I:Inv X pins σ H s) (h1:SqT X.K H a vs) (q1:Dens X.K μ H vs ds) (h2:SqT X.K H c ws) (q2:Dens X.K μ H ws es)
  (ih:∀ {v w:V} {d d':D} {u t:Value} {b:Bool},Den X.K μ H v d->Den X.K μ H w d'->RelV v u->RelV w t->eq d d'=some b->SeqAt.EqAt A.in1 s u t b) (h:eqGs eq ds es=some b):SeqAt.RcAt A s (.ref a) (.ref c) b:=by
 obtain⟨us,r1,p1,_⟩:=I.tuple h1
 obtain⟨ts,r2,p2,_⟩:=I.tuple h2
 obtain⟨e,e1,e2⟩:=QaX ds es b h
 have q:=SeqAt.RcAt.tuples (A:=A) p1 p2 hu (e:=e) (Qcl q1 q2 r1 r2 e1 ih)
 have l1:us.toArray.size=ds.length:=by rw [List.size_toArray,← r1.length,q1.length]
 have l2:ts.toArray.size=es.length:=by rw [List.size_toArray,← r2.length,q2.length]
 rw [l1,l2] at q
 rw [e2]
 exact q
theorem QiG {A:Around} {eq:D->D->Option Bool} {a c:Addr} {vs ws:List V} {ds es:List D} {b:Bool} (hu:A.units<cLine) (I:Inv X pins σ H s) (h1:SqL X.K H a vs) (q1:Dens X.K μ H vs ds) (h2:SqL X.K H c ws) (q2:Dens X.K μ H ws es)
  (ih:∀ {v w:V} {d d':D} {u t:Value} {b:Bool},Den X.K μ H v d->Den X.K μ H w d'->RelV v u->RelV w t->eq d d'=some b->SeqAt.EqAt A.in1 s u t b) (h:(if ds.length=es.length then eqGs eq ds es else some false)=some b):SeqAt.RcAt A s (.ref a) (.ref c) b:=by
 obtain⟨us,r1,p1,_⟩:=I.list h1
 obtain⟨ts,r2,p2,_⟩:=I.list h2
 have l1:us.toArray.size=ds.length:=by rw [List.size_toArray,← r1.length,q1.length]
 have l2:ts.toArray.size=es.length:=by rw [List.size_toArray,← r2.length,q2.length]
 by_cases hl:ds.length=es.length
 ·rw [if_pos hl] at h
  obtain⟨e,e1,e2⟩:=QaX ds es b h
  have q:=SeqAt.RcAt.lists (A:=A) p1.isList p2.isList (by rw [l1,l2,hl]) hu (e:=e) (Qcl q1 q2 r1 r2 e1 ih)
  rw [l1] at q
  rw [e2,← hl,Nat.min_self]
  simpa using q
 ·rw [if_neg hl] at h
  cases h
  exact SeqAt.RcAt.lists_lengths p1.isList p2.isList (by rw [l1,l2]; simpa using hl) hu
theorem Qea (I:Inv X pins σ H s):∀(f:Nat) {v:V} {d e:D} {b:Bool},Den X.K μ H v d->Den X.K μ H v e->eqI f d e=some b->b=true
 | 0,v,d,e,b,h1,h2,h=>by
  cases h1 with
  | int i=>cases h2; cases h; simp
  | _=>cases h
 | f+1,v,d,e,b,h1,h2,h=>by
  cases h1 with
  | int i=>cases h2; cases h; simp
  | tup t1 q1 =>
   cases h2 with
   | tup t2 q2 =>
    have ev:=I.tuple_inj t1 t2
    subst ev
    have h:eqGs (eqI f) _ _=some b:=h
    have key:∀ {vs:List V} {ds es:List D} {b:Bool},Dens X.K μ H vs ds->Dens X.K μ H vs es->eqGs (eqI f) ds es=some b->b=true:=by
     intro vs
     induction vs with
     | nil=>intro ds es b a1 a2 a3; cases a1; cases a2; cases a3; rfl
     | cons w ws ih =>
      intro ds es b a1 a2 a3
      cases a1 with
      | cons c1 c2=>cases a2 with
       | cons c3 c4 =>
        rename_i x xs y ys
        unfold eqGs at a3
        cases h1:eqI f x y with
        | none=>rw [h1] at a3; cases a3
        | some b1 =>
         cases h2:eqGs (eqI f) xs ys with
         | none=>rw [h1,h2] at a3; cases a3
         | some b2 =>
          rw [h1,h2] at a3
          cases a3
          rw [Qea I f c1 c3 h1,ih c2 c4 h2]; rfl
    exact key q1 q2 h
   | _=>cases h
  | _=>cases h2 <;> cases h
theorem QfX (I:Inv X pins σ H s):∀(f:Nat) {A:Around} {v w:V} {d e:D} {u t:Value} {b:Bool},A.units+f<cLine->Den X.K μ H v d->Den X.K μ H w e->RelV v u->RelV w t->eqI f d e=some b->SeqAt.EqAt A s u t b
 | 0,A,v,w,d,e,u,t,b,hu,qv,qw,rv,rw',h=>by
  cases qv with
  | int i =>
   cases qw with
   | int j=>obtain⟨y,rfl⟩:=rv; obtain⟨z,rfl⟩:=rw'; cases h; exact SeqAt.EqAt.int_int _ _ _ _
   | _=>cases h
  | _=>cases h
 | f+1,A,v,w,d,e,u,t,b,hu,qv,qw,rv,rw',h=>by
  cases qv with
  | int i =>
   cases qw with
   | int j=>obtain⟨y,rfl⟩:=rv; obtain⟨z,rfl⟩:=rw'; cases h; exact SeqAt.EqAt.int_int _ _ _ _
   | _=>cases h
  | tup h1 q1 =>
   cases qw with
   | tup h2 q2 =>
    cases rv; cases rw'
    rename_i a1 vs ds a2 ws es
    by_cases ea:a1=a2
    ·subst ea
     rw [Qea I (f+1) (.tup h1 q1) (.tup h2 q2) h]
     exact SeqAt.EqAt.same _
    ·exact SeqAt.EqAt.of_refs ea (QfW (by omega) I h1 q1 h2 q2 (fun a1 a2 a3 a4 a5=>QfX I f (by show A.units+1+f<cLine; omega) a1 a2 a3 a4 a5) h)
   | _=>cases h
  | _=>cases qw <;> cases h
noncomputable def rEqI (K:PySem.W.Frag):R2:=fun x y H Q=>∃(μ:List Addr) (a c:Addr) (vs ws:List V) (ds es:List D) (b:Bool),x=.ref a∧y=.ref c∧Dens K μ H vs ds∧Dens K μ H ws es∧((SqT K H a vs∧SqT K H c ws∧eqGs (eqI 2) ds es=some b)∨(SqL K H a vs∧SqL K H c ws∧(if ds.length=es.length then eqGs (eqI 2) ds es else some false)=some b))∧Q (.bl b) H
theorem QhV (hu:X.A.units+16<cLine):OpR X (compareOp .Eq) (rEqI X.K):=by
 intro pins s σ H x y v u Q I rx ry h
 obtain⟨μ,a,c,vs,ws,ds,es,b,rfl,rfl,q1,q2,h,q⟩:=h
 cases rx; cases ry
 have ih:∀ {v w:V} {d d':D} {u t:Value} {b:Bool},Den X.K μ H v d->Den X.K μ H w d'->RelV v u->RelV w t->eqI 2 d d'=some b->SeqAt.EqAt X.A.in1 s u t b:=fun a1 a2 a3 a4 a5=>QfX I 2 (by show X.A.units+1+2<cLine; omega) a1 a2 a3 a4 a5
 rcases h with⟨h1,h2,h3⟩ | ⟨h1,h2,h3⟩
 ·exact(QfW (A:=X.A) (by omega) I h1 q1 h2 q2 ih h3) _ _ _ _ ⟨.bl b,H,I,rfl,q⟩
 ·exact(QiG (A:=X.A) (by omega) I h1 q1 h2 q2 ih h3) _ _ _ _ ⟨.bl b,H,I,rfl,q⟩
noncomputable def Qkg (K:PySem.W.Frag):R2:=fun x y H Q=>∃(a:Addr) (vs:List V) (t:Str),x=.ref a∧y=.str t∧SqT K H a vs∧Q (.bl false) H
theorem QfY (hu:X.A.units+16<cLine):OpR X (compareOp .Eq) (Qkg X.K):=by
 intro pins s σ H x y v u Q I rx ry h
 obtain⟨a,vs,t,rfl,rfl,hq,q⟩:=h
 cases rx
 obtain⟨z,rfl⟩:=ry
 obtain⟨its,_,p1,_⟩:=I.tuple hq
 exact(SeqAt.RcAt.tuple_str (A:=X.A) t z p1 (by omega)) _ _ _ _ ⟨.bl false,H,I,rfl,q⟩
theorem QfZ {K:PySem.W.Frag}:Jc K ca (fun x y H Q=>(rEq x y H Q∨rEqI K x y H Q)∨Qkg K x y H Q) pEq:=by
 intro Φ σ H μ g x y dx dy Q r qx qy p
 unfold pEq eqT at p
 cases qx with
 | non =>
  cases qy with
  | int j=>exact .inl (.inl ⟨rfl,by rw [show decide (V.non=V.int j)=false by simp]; exact p _ H μ .refl r (.bl _)⟩)
  | _=>exact p.elim
 | int i =>
  cases qy with
  | int j=>exact .inl (.inl ⟨rfl,by rw [Qcc]; exact p _ H μ .refl r (.bl _)⟩)
  | _=>exact p.elim
 | str i =>
  cases qy with
  | str j=>exact .inl (.inl ⟨rfl,by rw [Qdl]; exact p _ H μ .refl r (.bl _)⟩)
  | _=>exact p.elim
 | bl i =>
  cases qy with
  | bl j=>exact .inl (.inl ⟨rfl,by rw [QdW]; exact p _ H μ .refl r (.bl _)⟩)
  | _=>exact p.elim
 | tup h1 q1 =>
  cases qy with
  | tup h2 q2 =>
   rename_i a vs ds c ws es
   dsimp only at p
   cases e:eqGs (eqI 2) ds es with
   | none=>rw [e] at p; exact p.elim
   | some b=>rw [e] at p; exact .inl (.inr ⟨μ,a,c,vs,ws,ds,es,b,rfl,rfl,q1,q2,.inl ⟨h1,h2,e⟩,p _ H μ .refl r (.bl _)⟩)
  | str t=>rename_i a vs ds; exact .inr ⟨a,vs,t,rfl,rfl,h1,p _ H μ .refl r (.bl _)⟩
  | _=>exact p.elim
 | @ref n a hn =>
  cases qy with
  | @ref m c hm =>
   dsimp only at p
   cases hg:g[n]? with
   | none=>rw [hg] at p; exact p.elim
   | some o1 =>
    cases hg2:g[m]? with
    | none=>rw [hg,hg2] at p; cases o1 <;> exact p.elim
    | some o2 =>
     rw [hg,hg2] at p
     obtain⟨b1,hb1,ob1⟩:=r.addr hg
     obtain⟨b2,hb2,ob2⟩:=r.addr hg2
     rw [hn] at hb1; cases hb1
     rw [hm] at hb2; cases hb2
     cases o1 with
     | lst xs =>
      cases o2 with
      | lst ys =>
       obtain⟨vs,hH1,q1⟩:=ob1
       obtain⟨ws,hH2,q2⟩:=ob2
       dsimp only at p
       cases e:(if xs.length=ys.length then eqGs (eqI 2) xs ys else some false) with
       | none=>rw [e] at p; exact p.elim
       | some b=>rw [e] at p; exact .inl (.inr ⟨μ,a,c,vs,ws,xs,ys,b,rfl,rfl,q1,q2,.inr ⟨.of hH1,.of hH2,e⟩,p _ H μ .refl r (.bl _)⟩)
      | _=>exact p.elim
     | _=>cases o2 <;> exact p.elim
  | _=>exact p.elim
 | _=>cases qy <;> exact p.elim
theorem Qf0 {A:Around} {eq:D->D->Option Bool} {a c:Addr} {vs ws:List V} {ds es:List D} {b:Bool} (hu:A.units<cLine) (I:Inv X pins σ H s) (h1:SqL X.K H a vs) (q1:Dens X.K μ H vs ds) (h2:SqL X.K H c ws) (q2:Dens X.K μ H ws es)
  (ih:∀ {v w:V} {d d':D} {u t:Value} {b:Bool},Den X.K μ H v d->Den X.K μ H w d'->RelV v u->RelV w t->eq d d'=some b->SeqAt.EqAt A.in1 s u t b) (h:(if ds.length=es.length then eqGs eq ds es else some false)=some b):SeqAt.RcNeAt A s (.ref a) (.ref c) (!b):=by
 obtain⟨us,r1,p1,_⟩:=I.list h1
 obtain⟨ts,r2,p2,_⟩:=I.list h2
 have l1:us.toArray.size=ds.length:=by rw [List.size_toArray,← r1.length,q1.length]
 have l2:ts.toArray.size=es.length:=by rw [List.size_toArray,← r2.length,q2.length]
 by_cases hl:ds.length=es.length
 ·rw [if_pos hl] at h
  obtain⟨e,e1,e2⟩:=QaX ds es b h
  have q:=SeqAt.RcNeAt.lists (A:=A) p1.isList p2.isList (by rw [l1,l2,hl]) hu (e:=e) (Qcl q1 q2 r1 r2 e1 ih)
  rw [l1] at q
  rw [e2,← hl,Nat.min_self]
  simpa using q
 ·rw [if_neg hl] at h
  cases h
  exact SeqAt.RcNeAt.lists_lengths p1.isList p2.isList (by rw [l1,l2]; simpa using hl) hu
noncomputable def rNeI (K:PySem.W.Frag):R2:=fun x y H Q=>∃(μ:List Addr) (a c:Addr) (vs ws:List V) (ds es:List D) (b:Bool),x=.ref a∧y=.ref c∧Dens K μ H vs ds∧Dens K μ H ws es∧SqL K H a vs∧SqL K H c ws∧(if ds.length=es.length then eqGs (eqI 2) ds es else some false)=some b∧Q (.bl (!b)) H
theorem Qkh (hu:X.A.units+16<cLine):OpR X (compareOp .NotEq) (rNeI X.K):=by
 intro pins s σ H x y v u Q I rx ry h
 obtain⟨μ,a,c,vs,ws,ds,es,b,rfl,rfl,q1,q2,h1,h2,h3,q⟩:=h
 cases rx; cases ry
 have ih:∀ {v w:V} {d d':D} {u t:Value} {b:Bool},Den X.K μ H v d->Den X.K μ H w d'->RelV v u->RelV w t->eqI 2 d d'=some b->SeqAt.EqAt X.A.in1 s u t b:=fun a1 a2 a3 a4 a5=>QfX I 2 (by show X.A.units+1+2<cLine; omega) a1 a2 a3 a4 a5
 exact(Qf0 (A:=X.A) (by omega) I h1 q1 h2 q2 ih h3) _ _ _ _ ⟨.bl (!b),H,I,rfl,q⟩
theorem QiH {K:PySem.W.Frag}:Jc K ca (fun x y H Q=>rNe x y H Q∨rNeI K x y H Q) pNe:=by
 intro Φ σ H μ g x y dx dy Q r qx qy p
 unfold pNe neT at p
 cases qx with
 | int i =>
  cases qy with
  | non=>exact .inl ⟨rfl,by rw [show decide (V.int i=V.non)=false by simp]; exact p _ H μ .refl r (.bl _)⟩
  | int j=>exact .inl ⟨rfl,by rw [Qcc]; exact p _ H μ .refl r (.bl _)⟩
  | _=>exact p.elim
 | bl i =>
  cases qy with
  | bl j=>exact .inl ⟨rfl,by rw [QdW]; exact p _ H μ .refl r (.bl _)⟩
  | _=>exact p.elim
 | @ref n a hn =>
  cases qy with
  | @ref m c hm =>
   dsimp only at p
   cases hg:g[n]? with
   | none=>rw [hg] at p; exact p.elim
   | some o1 =>
    cases hg2:g[m]? with
    | none=>rw [hg,hg2] at p; cases o1 <;> exact p.elim
    | some o2 =>
     rw [hg,hg2] at p
     obtain⟨b1,hb1,ob1⟩:=r.addr hg
     obtain⟨b2,hb2,ob2⟩:=r.addr hg2
     rw [hn] at hb1; cases hb1
     rw [hm] at hb2; cases hb2
     cases o1 with
     | lst xs =>
      cases o2 with
      | lst ys =>
       obtain⟨vs,hH1,q1⟩:=ob1
       obtain⟨ws,hH2,q2⟩:=ob2
       dsimp only at p
       cases e:(if xs.length=ys.length then eqGs (eqI 2) xs ys else some false) with
       | none=>rw [e] at p; exact p.elim
       | some b=>rw [e] at p; exact .inr ⟨μ,a,c,vs,ws,xs,ys,b,rfl,rfl,q1,q2,.of hH1,.of hH2,e,p _ H μ .refl r (.bl _)⟩
      | _=>exact p.elim
     | _=>cases o2 <;> exact p.elim
  | _=>exact p.elim
 | _=>cases qy <;> exact p.elim
end
section
variable {X:Cx} {ca:Nat->Addr} {a b e:Expr} {ma mb me:ME} {pos p:Pos} {k:Nat}
theorem hu16 {A:Around} (hr:Room k A):A.units+16<cLine:=by have:=hr.units; omega
theorem r_eq (hr:Room k X.A) (ha:PE3 ca X a ma) (hb:PE3 ca X b mb):PE3 ca X (.Compare a [.Eq] [b] pos) (mOp2 pEq ma mb):=QfJ (fun pn Φ=>(op_eq.or (QhV (X:=xat X ca pn Φ) (hu16 hr))).or (QfY (X:=xat X ca pn Φ) (hu16 hr))) QfZ ha hb (Jd b)
theorem Z6 (hr:Room k X.A) (ha:PE3 ca X a ma) (hb:PE3 ca X b mb):PT3 ca X (.Compare a [.Eq] [b] pos) (Qh (mOp2 pEq ma mb)):=JQ (fun pn Φ=>(op_eq.or (QhV (X:=xat X ca pn Φ) (hu16 hr))).or (QfY (X:=xat X ca pn Φ) (hu16 hr))) QfZ ha hb (Jd b)
theorem QaM (hr:Room k X.A) (ha:PE3 ca X a ma) (hb:PE3 ca X b mb):PT3 ca X (.Compare a [.NotEq] [b] pos) (Qh (mOp2 pNe ma mb)):=JQ (fun pn Φ=>op_ne.or (Qkh (X:=xat X ca pn Φ) (hu16 hr))) QiH ha hb (Jd b)
theorem Qeb {K:PySem.W.Frag} {μ:List Addr} {H:Hp} {x:V} {d:D} (q:Den K μ H x d):decide (x=.non)=isNon d:=by cases q <;> simp [isNon]
theorem Qf1 {K:PySem.W.Frag}:Jc K ca (fun x y H Q=>y=.non∧Q (.bl (decide (x=.non))) H) pIs:=by
 intro Φ σ H μ g x y dx dy Q r qx qy p
 cases qy with
 | non=>exact⟨rfl,p _ H μ .refl r (by rw [Qeb qx]; exact .bl _)⟩
 | _=>exact p.elim
theorem QeQ {K:PySem.W.Frag}:Jc K ca (fun x y H Q=>y=.non∧Q (.bl (!decide (x=.non))) H) J4:=by
 intro Φ σ H μ g x y dx dy Q r qx qy p
 cases qy with
 | non=>exact⟨rfl,p _ H μ .refl r (by rw [Qeb qx]; exact .bl _)⟩
 | _=>exact p.elim
theorem r_is (ha:PE3 ca X a ma) (hb:PE3 ca X b mb):PE3 ca X (.Compare a [.Is] [b] pos) (mOp2 pIs ma mb):=QfJ (fun _ _=>QhM) Qf1 ha hb (Jd b)
theorem Qc2 (ha:PE3 ca X a ma) (hb:PE3 ca X b mb):PT3 ca X (.Compare a [.Is] [b] pos) (Qh (mOp2 pIs ma mb)):=JQ (fun _ _=>QhM) Qf1 ha hb (Jd b)
theorem Qec (ha:PE3 ca X a ma) (hb:PE3 ca X b mb):PT3 ca X (.Compare a [.IsNot] [b] pos) (Qh (mOp2 J4 ma mb)):=JQ (fun _ _=>Qip) QeQ ha hb (Jd b)
theorem Qcm {K:PySem.W.Frag} {μ:List Addr} {H:Hp} {vs:List V} {ds:List D} {i:Int} {d:D} (q:Dens K μ H vs ds) (h:atD ds i=some d):∃ v,atI vs i=some v∧Den K μ H v d:=by
 unfold atD at h
 cases hj:ixD ds.length i with
 | none=>rw [hj] at h; cases h
 | some j =>
  rw [hj] at h
  obtain⟨v,h1,h2⟩:=q.get (show ds[j]?=some d from h)
  refine⟨v,?_,h2⟩
  unfold atI
  rw [q.length,show ixN ds.length i=some j from hj]
  exact h1
theorem QiI {K:PySem.W.Frag}:Jc K ca (rIx K) pIx:=by
 intro Φ σ H μ g x y dx dy Q r qx qy p
 unfold pIx at p
 cases qx with
 | tup ht hs =>
  cases qy with
  | int i =>
   dsimp only at p
   rename_i a vs ds
   cases h:atD ds i with
   | none=>rw [h] at p; exact p.elim
   | some d =>
    rw [h] at p
    obtain⟨v,h1,h2⟩:=Qcm hs h
    exact .inr (.inl ⟨a,vs,i,v,rfl,rfl,ht,h1,p v H μ .refl r h2⟩)
  | _=>exact p.elim
 | fl ht hs =>
  cases qy with
  | int i =>
   dsimp only at p
   rename_i a vs ds
   cases h:atD ds i with
   | none=>rw [h] at p; exact p.elim
   | some d =>
    rw [h] at p
    obtain⟨v,h1,h2⟩:=Qcm hs h
    exact .inl ⟨a,vs,i,v,rfl,rfl,ht.sq,h1,p v H μ .refl r h2⟩
  | _=>exact p.elim
 | @ref n a hn =>
  cases qy with
  | int i =>
   dsimp only at p
   cases hg:g[n]? with
   | none=>rw [hg] at p; exact p.elim
   | some o =>
    rw [hg] at p
    obtain⟨a',ha',ob⟩:=r.addr hg
    rw [hn] at ha'; cases ha'
    cases o with
    | lst ds =>
     obtain⟨vs,hH,hs⟩:=ob
     dsimp only at p
     cases h:atD ds i with
     | none=>rw [h] at p; exact p.elim
     | some d =>
      rw [h] at p
      obtain⟨v,h1,h2⟩:=Qcm hs h
      exact .inl ⟨a,vs,i,v,rfl,rfl,.of hH,h1,p v H μ .refl r h2⟩
    | _=>exact p.elim
  | _=>exact p.elim
 | str s =>
  cases qy with
  | int i =>
   dsimp only at p
   by_cases z:s.length≤SZ
   ·rw [if_pos z] at p
    cases h:atD s.cps.toList i with
    | none=>rw [h] at p; exact p.elim
    | some c =>
     rw [h] at p
     exact .inr (.inr ⟨s,i,c,rfl,rfl,Nat.le_trans z Jg,h,p _ H μ .refl r (.str _)⟩)
   ·rw [if_neg z] at p; exact p.elim
  | _=>exact p.elim
 | _=>cases qy <;> exact p.elim
theorem Qj (ha:PE3 ca X a ma) (hb:PE3 ca X b mb) (hs:Qdn b:=by exact fun _ _=>rfl):PE3 ca X (.Subscript a b pos) (mOp2 pIx ma mb):=r_ix (fun _ _=>QjX) QiI ha hb hs
theorem QiJ {x:Str} {id:String} {r:List V->Hp->VK->Prop} {f:D->G->Res D} (hc:∀ pn Φ,CallR (xat X ca pn Φ) (.builtin id) r) (hm:X.mg x=none) (hv:bootBuiltins x=some (.builtin id))
  (hp:∀(Φ:XS) (σ:L2.St) (H:Hp) (μ:List Addr) (g:G) (y:V) (d:D) (Q:VK),GRep X.K ca μ H g->Den X.K μ H y d->Post X.K ca Φ σ Q H μ (f d g)->r [y] H Q) (he:PE3 ca X e me) (hg:Gl X x) (hn:x ≠ "__name__") (hdb:(x == ("__debug__" : Str))=false)
  (hs:starEach [e] X.env=[(false,eval e X.env)]) (hpl:(backTo pos (starEach [] X.env)).any (·.1)=false):PE3 ca X (.Call (.Name x p) [e] [] pos) (mOp1 f me) :=
 fun pn Φ=>Zo (QaU (X:=xat X ca pn Φ) (hc pn Φ) hg hm hv (JG he Ql hs pn Φ) hn hdb hs hpl) fun σ H Q hQ=>by
  obtain⟨σ3,g,μ,R,q⟩:=hQ
  refine⟨σ3,g,μ,R,?_⟩
  unfold mOp1 at q
  unfold Qb mNil
  cases hm:me σ3 g with
  | raise _ _=>rw [hm] at q; exact q
  | stuck=>rw [hm] at q; exact q.elim
  | ok d g1 =>
   rw [hm,Res.bind_ok] at q
   rw [Res.bind_ok,Res.bind_ok]
   intro vs H1 μ1 e1 r1 q1
   cases q1 with
   | cons h1 h2 =>
    cases h2
    exact hp Φ σ H1 μ1 g1 _ d Q r1 h1 (q.go e1)
end
end L3
end
section
namespace L3
open PySem PySem.Spec PyProof.Rows L2
section
variable {X:Cx} {ca:Nat->Addr} {a b e o:Expr} {ma mb me mo:ME} {pos p apos:Pos} {k:Nat}
theorem r_ty {x:Str} {T:String} {r:List V->Hp->VK->Prop} {f:D->G->Res D} (hc:∀ pn Φ,CallR (xat X ca pn Φ) (.type T) r) (hm:X.mg x=none) (hv:bootBuiltins x=some (.type T))
  (hp:∀(Φ:XS) (σ:L2.St) (H:Hp) (μ:List Addr) (g:G) (y:V) (d:D) (Q:VK),GRep X.K ca μ H g->Den X.K μ H y d->Post X.K ca Φ σ Q H μ (f d g)->r [y] H Q) (he:PE3 ca X e me) (hg:Gl X x) (hn:x ≠ "__name__") (hdb:(x == ("__debug__" : Str))=false)
  (hs:starEach [e] X.env=[(false,eval e X.env)]) (hpl:(backTo pos (starEach [] X.env)).any (·.1)=false):PE3 ca X (.Call (.Name x p) [e] [] pos) (mOp1 f me) :=
 fun pn Φ=>Zo (Qfx (X:=xat X ca pn Φ) (hc pn Φ) hg hm hv (JG he Ql hs pn Φ) hn hdb hs hpl) fun σ H Q hQ=>by
  obtain⟨σ3,g,μ,R,q⟩:=hQ
  refine⟨σ3,g,μ,R,?_⟩
  unfold mOp1 at q
  unfold Qb mNil
  cases hm:me σ3 g with
  | raise _ _=>rw [hm] at q; exact q
  | stuck=>rw [hm] at q; exact q.elim
  | ok d g1 =>
   rw [hm,Res.bind_ok] at q
   rw [Res.bind_ok,Res.bind_ok]
   intro vs H1 μ1 e1 r1 q1
   cases q1 with
   | cons h1 h2 =>
    cases h2
    exact hp Φ σ H1 μ1 g1 _ d Q r1 h1 (q.go e1)
theorem Z7 (hm:X.mg "len" = none) (he:PE3 ca X e me) (hg:Gl X "len":=by rfl) (hs:starEach [e] X.env=[(false,eval e X.env)]:=by rfl) (hpl:(backTo pos (starEach [] X.env)).any (·.1)=false:=by rfl) :
  PE3 ca X (.Call (.Name "len" p) [e] [] pos) (mOp1 pLen me) :=
 QiJ (r:=fun xs H Q=>∃ p ys,xs=[V.ref p]∧(SqL X.K H p ys∨SqT X.K H p ys)∧Q (V.int (ys.length:Int)) H) (fun _ _=>QcR) hm boot_len (fun Φ σ H μ g y d Q r q pp=>by
  unfold pLen at pp
  cases q with
  | @tup t vs ds ht hs=>exact⟨t,vs,rfl,.inr ht,pp _ H μ .refl r (by rw [hs.length]; exact .int _)⟩
  | @fl t vs ds ht hs=>exact⟨t,vs,rfl,.inl ht.sq,pp _ H μ .refl r (by rw [hs.length]; exact .int _)⟩
  | @ref n t hn =>
   dsimp only at pp
   cases hgn:g[n]? with
   | none=>rw [hgn] at pp; exact pp.elim
   | some ob =>
    rw [hgn] at pp
    obtain⟨t',ht',orp⟩:=r.addr hgn
    rw [hn] at ht'; cases ht'
    cases ob with
    | lst ds=>obtain⟨vs,hH,q⟩:=orp; exact⟨t,vs,rfl,.inl (.of hH),pp _ H μ .refl r (by rw [q.length]; exact .int _)⟩
    | _=>exact pp.elim
  | _=>exact pp.elim) he hg (by decide) (by decide) hs hpl
theorem Qf2 (hm:X.mg "tuple" = none) (he:PE3 ca X e me) (hg:Gl X "tuple":=by rfl) (hs:starEach [e] X.env=[(false,eval e X.env)]:=by rfl) (hpl:(backTo pos (starEach [] X.env)).any (·.1)=false:=by rfl) :
  PE3 ca X (.Call (.Name "tuple" p) [e] [] pos) (mOp1 J6 me) :=
 r_ty (r:=fun xs H Q=>∃ p ys,xs=[V.ref p]∧((SqL X.K H p ys∧∀ l,H l=none->Q (.ref l) (upd H l (.tup ys)))∨(SqT X.K H p ys∧Q (.ref p) H))) (fun _ _=>Qcg) hm boot_tuple (fun Φ σ H μ g y d Q r q pp=>by
  unfold J6 at pp
  cases q with
  | @tup t vs ds ht hs=>exact⟨t,vs,rfl,.inr ⟨ht,pp _ H μ .refl r (.tup ht hs)⟩⟩
  | @fl t vs ds ht hs=>exact⟨t,vs,rfl,.inl ⟨ht.sq,fun l hl=>pp _ _ μ (Q0 hl) (r.new hl) (.tup (.of Qu) (hs.mono (Q0 hl)))⟩⟩
  | @ref n t hn =>
   dsimp only at pp
   cases hgn:g[n]? with
   | none=>rw [hgn] at pp; exact pp.elim
   | some ob =>
    rw [hgn] at pp
    obtain⟨t',ht',orp⟩:=r.addr hgn
    rw [hn] at ht'; cases ht'
    cases ob with
    | lst ds=>obtain⟨vs,hH,q⟩:=orp; exact⟨t,vs,rfl,.inl ⟨.of hH,fun l hl=>pp _ _ μ (Q0 hl) (r.new hl) (.tup (.of Qu) (q.mono (Q0 hl)))⟩⟩
    | _=>exact pp.elim
  | _=>exact pp.elim) he hg (by decide) (by decide) hs hpl
theorem Qki (hm:X.mg "list" = none) (he:PE3 ca X e me) (hg:Gl X "list":=by rfl) (hs:starEach [e] X.env=[(false,eval e X.env)]:=by rfl) (hpl:(backTo pos (starEach [] X.env)).any (·.1)=false:=by rfl) :
  PE3 ca X (.Call (.Name "list" p) [e] [] pos) (mOp1 QfE me) :=
 r_ty (r:=fun xs H Q=>∃ p ys,xs=[V.ref p]∧(SqL X.K H p ys∨SqT X.K H p ys)∧∀ l,H l=none->Q (.ref l) (upd H l (.lst ys))) (fun _ _=>QcS) hm boot_list (fun Φ σ H μ g y d Q r q pp=>by
  have el:∀ l:Addr,(μ++[l])[g.length]?=some l:=fun l=>by rw [← r.len]; simp
  unfold QfE at pp
  cases q with
  | @fl t vs ds ht hs=>exact⟨t,vs,rfl,.inl ht.sq,fun l hl=>pp _ _ (μ++[l]) (QB hl) (r.push hl ⟨vs,Qu,hs.mono (QB hl)⟩) (.ref (el l))⟩
  | @tup t vs ds ht hs=>exact⟨t,vs,rfl,.inr ht,fun l hl=>pp _ _ (μ++[l]) (QB hl) (r.push hl ⟨vs,Qu,hs.mono (QB hl)⟩) (.ref (el l))⟩
  | @ref n t hn =>
   dsimp only at pp
   cases hgn:g[n]? with
   | none=>rw [hgn] at pp; exact pp.elim
   | some ob =>
    rw [hgn] at pp
    obtain⟨t',ht',orp⟩:=r.addr hgn
    rw [hn] at ht'; cases ht'
    cases ob with
    | lst ds=>obtain⟨vs,hH,q⟩:=orp; exact⟨t,vs,rfl,.inl (.of hH),fun l hl=>pp _ _ (μ++[l]) (QB hl) (r.push hl ⟨vs,Qu,q.mono (QB hl)⟩) (.ref (el l))⟩
    | _=>exact pp.elim
  | _=>exact pp.elim) he hg (by decide) (by decide) hs hpl
theorem Qdw (hm:X.mg "int" = none) (he:PE3 ca X e me) (hg:Gl X "int":=by rfl) (hs:starEach [e] X.env=[(false,eval e X.env)]:=by rfl) (hpl:(backTo pos (starEach [] X.env)).any (·.1)=false:=by rfl) :
  PE3 ca X (.Call (.Name "int" p) [e] [] pos) (mOp1 pInt me) :=
 r_ty (fun _ _=>Qft) hm boot_int (fun Φ σ H μ g y d Q r q pp=>by
  cases q with
  | int i=>exact .inl ⟨i,rfl,pp _ H μ .refl r (.int _)⟩
  | bl b=>exact .inr ⟨b,rfl,pp _ H μ .refl r (.int _)⟩
  | _=>exact pp.elim) he hg (by decide) (by decide) hs hpl
theorem QaY (ho:PE3 ca X o mo) (he:PE3 ca X e me) (hbase:attributeBase o "append" X.env (eval o X.env)=eval o X.env:=by rfl)
  (hfew:((backTo pos (starEach [e] X.env)).all (fun x=>!x.1) && (backToKw pos (keywordEach [] X.env)).all (fun x=>x.1.isSome) && decide ([e].length+([]:List Keyword).length+(if ([]:List Keyword).isEmpty then 0 else 1)<30))=true:=by rfl)
  (hline:(apos.endLine == pos.line)=true:=by rfl) (hs:starEach [e] X.env=(false,eval e X.env)::starEach [] X.env:=by rfl) (hplain:(backTo pos (starEach [] X.env)).any (·.1)=false:=by rfl) :
  PE3 ca X (.Call (.Attribute o "append" apos) [e] [] pos) (Z3 mo me) :=
 fun pn Φ=>Zo (Qli (X:=xat X ca pn Φ) PySem.F.plainAttrs_list PySem.F.slot_list_append PySem.F.type_list_append QfB (ho pn Φ) (JG he Ql hs pn Φ) hbase hfew hline hs hplain) fun σ H Q ⟨σ3,g,μ,R,q⟩=>Za (JE R q) fun x H1 hQ=>by
  obtain⟨d,g1,μ1,e1,R1,q1,p1⟩:=hQ
  cases q1 with
  | @ref n t hn =>
   dsimp only at p1
   cases hgn:g1[n]? with
   | none=>rw [hgn] at p1; exact p1.elim
   | some ob =>
    rw [hgn] at p1
    obtain⟨t',ht',orp⟩:=R1.g.addr hgn
    rw [hn] at ht'; cases ht'
    cases ob with
    | lst ds0 =>
     obtain⟨vs0,hH0,_⟩:=orp
     dsimp only at p1
     refine⟨.inl ⟨rfl,_,.of hH0⟩,σ3,g1,μ1,R1,?_⟩
     unfold Qb mNil
     cases hm:me σ3 g1 with
     | raise _ _=>rw [hm] at p1; exact p1
     | stuck=>rw [hm] at p1; exact p1.elim
     | ok y g2 =>
      rw [hm,Res.bind_ok] at p1
      rw [Res.bind_ok,Res.bind_ok]
      intro vs H2 μ2 e2 r2 q2
      cases q2 with
      | @cons vy _ _ _ h1 h2 =>
       cases h2
       cases hg2:g2[n]? with
       | none=>rw [hg2] at p1; exact p1.elim
       | some ob2 =>
        rw [hg2] at p1
        obtain⟨t',ht',orp⟩:=r2.addr hg2
        rw [e2.at hn] at ht'; cases ht'
        cases ob2 with
        | lst ds =>
         obtain⟨ws,hH,qs⟩:=orp
         dsimp only at p1
         by_cases z:ds.length<SZ
         ·rw [if_pos z] at p1
          have ex:Ext X.K μ2 H2 μ2 (upd H2 t (.lst (ws++[vy]))):=Qbf hH (by intro _ z; cases z) (by intro _ _ z; cases z)
          refine⟨t,ws,_,rfl,rfl,hH,by rw [qs.length]; exact Nat.lt_of_lt_of_le z Jg,p1 _ _ μ2 (e2.trans ex) ?_ .non⟩
          exact r2.set (e2.at hn) hH (by intro _ z; cases z) (by intro _ _ z; cases z) ⟨_,Qu,(qs.mono ex).append (.cons (h1.mono ex) .nil)⟩
         ·rw [if_neg z] at p1; exact p1.elim
        | _=>exact p1.elim
    | _=>exact p1.elim
  | _=>exact p1.elim
theorem Dens.dropLast {K:PySem.W.Frag} {μ:List Addr} {H:Hp} {vs:List V} {ds:List D} (h:Dens K μ H vs ds):Dens K μ H vs.dropLast ds.dropLast:=by
 rw [List.dropLast_eq_take,List.dropLast_eq_take,h.length]
 exact h.take _
theorem Qkj (ho:PE3 ca X o mo) (hbase:attributeBase o "pop" X.env (eval o X.env)=eval o X.env:=by rfl) (hline:(apos.endLine == pos.line)=true:=by rfl):PE3 ca X (.Call (.Attribute o "pop" apos) [] [] pos) (mOp1 pPop mo) :=
 fun pn Φ=>Zo (QjZ (X:=xat X ca pn Φ) PySem.F.plainAttrs_list PySem.F.slot_list_pop PySem.F.type_list_pop Qj0 (ho pn Φ) hbase hline) fun σ H Q ⟨σ3,g,μ,R,q⟩=>Za (JE R q) fun x H1 hQ=>by
  obtain⟨d,g1,μ1,e1,R1,q1,p1⟩:=hQ
  unfold pPop at p1
  cases q1 with
  | @ref n t hn =>
   dsimp only at p1
   cases hgn:g1[n]? with
   | none=>rw [hgn] at p1; exact p1.elim
   | some ob =>
    rw [hgn] at p1
    obtain⟨t',ht',orp⟩:=R1.g.addr hgn
    rw [hn] at ht'; cases ht'
    cases ob with
    | lst ds =>
     obtain⟨ws,hH,qs⟩:=orp
     dsimp only at p1
     cases hl:ds[ds.length - 1]? with
     | none=>rw [hl] at p1; exact p1.elim
     | some y =>
      rw [hl] at p1
      obtain⟨v,h1,h2⟩:=qs.get hl
      have ex:Ext X.K μ1 H1 μ1 (upd H1 t (.lst ws.dropLast)):=Qbf hH (by intro _ z; cases z) (by intro _ _ z; cases z)
      refine⟨.inl ⟨rfl,_,.of hH⟩,t,ws,v,rfl,rfl,hH,by rw [qs.length]; exact h1,p1 v _ μ1 ex ?_ (h2.mono ex)⟩
      exact R1.g.set hn hH (by intro _ z; cases z) (by intro _ _ z; cases z) ⟨_,Qu,(qs.mono ex).dropLast⟩
    | _=>exact p1.elim
  | _=>exact p1.elim
end
end L3
end
section
namespace L3
open PySem PySem.Spec PyProof.Rows L2
noncomputable def IsIt (b:Bool) (h:Heap) (i l:Addr) (k:Nat):Prop:=if b=true then h.IsListIter i l k else h.IsTupleIter i l k
noncomputable def IsSq (b:Bool) (h:Heap) (l:Addr) (xs:Array Value):Prop:=if b=true then h.IsList l xs else h.IsTuple l xs
theorem IsIt.at {b:Bool} {h h':Heap} {i l:Addr} {k:Nat} (x:IsIt b h i l k) (hk:∀ o,h.get? i=some o->h'.get? i=some o):IsIt b h' i l k:=by
 cases b
 ·exact Heap.IsTupleIter.at (show h.IsTupleIter i l k from x) hk
 ·exact Heap.IsListIter.at (show h.IsListIter i l k from x) hk
theorem IsSq.at {b:Bool} {h h':Heap} {l:Addr} {xs:Array Value} (x:IsSq b h l xs) (hk:∀ o,h.get? l=some o->h'.get? l=some o):IsSq b h' l xs:=by
 cases b
 ·obtain⟨o,e,c⟩:=(show h.IsTuple l xs from x); exact⟨o,hk o e,c⟩
 ·obtain⟨o,e,c⟩:=(show h.IsList l xs from x); exact⟨o,hk o e,c⟩
theorem IsIt.lt {b:Bool} {h:Heap} {i l:Addr} {k:Nat} (x:IsIt b h i l k):i<h.objs.size:=by
 cases b
 ·obtain⟨o,e,_⟩:=(show h.IsTupleIter i l k from x); exact Heap.lt_size e
 ·obtain⟨o,e,_⟩:=(show h.IsListIter i l k from x); exact Heap.lt_size e
theorem IsIt.rec {b:Bool} {h:Heap} {i l:Addr} {k:Nat} (x:IsIt b h i l k):∃ o,h.get? i=some o∧∀ v,o.data≠.cell v:=by
 cases b
 ·obtain⟨o,e,c,d⟩:=(show h.IsTupleIter i l k from x); exact⟨o,e,fun v z=>by rw [d] at z; cases z⟩
 ·obtain⟨o,e,c,d⟩:=(show h.IsListIter i l k from x); exact⟨o,e,fun v z=>by rw [d] at z; cases z⟩
theorem IsSq.lt {b:Bool} {h:Heap} {l:Addr} {xs:Array Value} (x:IsSq b h l xs):l<h.objs.size:=by
 cases b
 ·obtain⟨o,e,_⟩:=(show h.IsTuple l xs from x); exact Heap.lt_size e
 ·obtain⟨o,e,_⟩:=(show h.IsList l xs from x); exact Heap.lt_size e
section
variable {prog:Program} {w:World} {A:Around} {E:Value->Shared->Prop} {s:Shared}
theorem QeR {it t:Addr} {i:Nat} {items:Array Value} {x:Value} {Q:Value->Shared->Prop} (hit:s.heap.IsTupleIter it t i) (ht:s.heap.IsTuple t items) (hx:items[i]?=some x) (hQ:∀ h',h'.IsTupleIter it t (i+1)->Heap.SameBut it s.heap h'->Q x { s with heap:=h' }) :
  wpAny (model prog w) A (Builtin.SmallTypes.nextOf (.ref it)) Q E s:=by
 obtain⟨o,ho,hc,hd⟩:=id hit; obtain⟨ol,hol,_,nl,hdl⟩:=ht; unfold Builtin.SmallTypes.nextOf
 refine wpAny_bind (wpAny_callSpecial?_slot (name:=Str.ofString "__next__") hit.typeIs F.slot_tuple_iterator_next (wpAny_call_entry F.slot_tuple_iterator_next hit.typeIs F.entry_tuple_iterator_next ?_ (F.args_tuple_iterator_next_1 _)))
 show wpAny _ _ (field (.ref it) 0 >>= _) _ _ s; refine wpAny_bind (wpAny_field ho hd (x:=.ref t) rfl ?_)
 show wpAny _ _ (if (Value.ref t == Value.none)=true then _ else _) _ _ s; rw [if_neg (show ¬ ((Value.ref t == Value.none)=true) from Bool.false_ne_true)]
 show wpAny _ _ (field (.ref it) 1 >>= _) _ _ s; refine wpAny_bind (wpAny_field ho hd (x:=.int i 0) rfl ?_)
 show wpAny _ _ (seqItems? (.ref t) >>= _) _ _ s; refine wpAny_bind (wpAny_seqItems hol hdl ?_); simp only [Int.toNat_natCast,hx]
 refine wpAny_bind (wpAny_setField ho hd (by simp) (wpAny_pure ⟨x,rfl,wpAny_pure (hQ _ ⟨_,Heap.get?_update_self _ ho (Obj.isFreed_of_fields (Obj.data_mapFields hd _)),(Obj.cls_mapFields ..).trans hc,by rw [Obj.data_mapFields hd]; simp [rawInt]⟩ (Heap.SameBut.update ..))⟩))
theorem Qcn {it t:Addr} {i:Nat} {items:Array Value} {Q:Value->Shared->Prop} (hh:A.handled=none) (hit:s.heap.IsTupleIter it t i) (ht:s.heap.IsTuple t items) (hx:items[i]?=none)
  (hE:∀ h' e,Heap.ExtBut it s.heap h'->(∃ o,h'.get? e=some o∧o.cls=.type "StopIteration")->E (.ref e) { s with heap:=h' }):wpAny (model prog w) A (Builtin.SmallTypes.nextOf (.ref it)) Q E s:=by
 obtain⟨o,ho,hc,hd⟩:=id hit; obtain⟨ol,hol,_,nl,hdl⟩:=ht; unfold Builtin.SmallTypes.nextOf
 refine wpAny_bind (wpAny_callSpecial?_slot (name:=Str.ofString "__next__") hit.typeIs F.slot_tuple_iterator_next (wpAny_call_entry F.slot_tuple_iterator_next hit.typeIs F.entry_tuple_iterator_next ?_ (F.args_tuple_iterator_next_1 _)))
 show wpAny _ _ (field (.ref it) 0 >>= _) _ _ s; refine wpAny_bind (wpAny_field ho hd (x:=.ref t) rfl ?_)
 show wpAny _ _ (if (Value.ref t == Value.none)=true then _ else _) _ _ s; rw [if_neg (show ¬ ((Value.ref t == Value.none)=true) from Bool.false_ne_true)]
 show wpAny _ _ (field (.ref it) 1 >>= _) _ _ s; refine wpAny_bind (wpAny_field ho hd (x:=.int i 0) rfl ?_)
 show wpAny _ _ (seqItems? (.ref t) >>= _) _ _ s; refine wpAny_bind (wpAny_seqItems hol hdl ?_); simp only [Int.toNat_natCast,hx]
 refine wpAny_bind (wpAny_rule (wpAny_bind (wpAny_setField ho hd (by simp) ?_)))
 show wpAny _ _ (newExc (.type "StopIteration") [] >>= _) _ _ _; refine wpAny_bind ?_; simp only [newExc,newTuple]; refine wpAny_bind (wpAny_newObj_type ?_ (by size_fits))
 refine wpAny_bind (m:=firstArgMember _ _) (wpAny_of_eq (a:=Value.none) (by first | rfl | (simp only [firstArgMember]; rfl)) ?_); refine wpAny_newObj_type ?_ (by size_fits); simp only [raiseNew]
 refine wpAny_bind (wpAny_handled ?_); (first | rw [show A.in1.handled=none from hh] | rw [hh]); refine wpAny_bind (wpAny_pure (wpAny_throw ?_))
 exact hE _ _ (((Heap.SameBut.update ..).extBut.push _).push _) ⟨_,Heap.get?_push_size _ rfl,rfl⟩
theorem Qf3 {b:Bool} {it l:Addr} {i:Nat} {xs:Array Value} {x:Value} {Q:Value->Shared->Prop} (hit:IsIt b s.heap it l i) (hl:IsSq b s.heap l xs) (hx:xs[i]?=some x) (hQ:∀ h',IsIt b h' it l (i+1)->Heap.SameBut it s.heap h'->Q x { s with heap:=h' }) :
  wpAny (model prog w) A (Builtin.SmallTypes.nextOf (.ref it)) Q E s:=by
 cases b
 ·exact QeR hit hl hx hQ
 ·exact wpAny_nextOf_list_item hit hl hx hQ
theorem Qf4 {b:Bool} {it l:Addr} {i:Nat} {xs:Array Value} {Q:Value->Shared->Prop} (hh:A.handled=none) (hit:IsIt b s.heap it l i) (hl:IsSq b s.heap l xs) (hx:xs[i]?=none)
  (hE:∀ h' e,Heap.ExtBut it s.heap h'->(∃ o,h'.get? e=some o∧o.cls=.type "StopIteration")->E (.ref e) { s with heap:=h' }):wpAny (model prog w) A (Builtin.SmallTypes.nextOf (.ref it)) Q E s:=by
 cases b
 ·exact Qcn hh hit hl hx hE
 ·exact wpAny_nextOf_list_end hh hit hl hx hE
theorem QiK {b1 b2:Bool} {z TI TO i1 i2 l1 l2:Addr} {k:Nat} {xs ys:Array Value} {x y a b:Value} {Q:Value->Shared->Prop} (D:ZipApart z TI TO i1 i2 l1 l2)
  (hz:IsZip s.heap z TI TO .none) (hTI:IsPair s.heap TI (.ref i1) (.ref i2)) (hTO:IsPair s.heap TO a b) (h1:IsIt b1 s.heap i1 l1 k) (h2:IsIt b2 s.heap i2 l2 k) (hl1:IsSq b1 s.heap l1 xs) (hl2:IsSq b2 s.heap l2 ys) (hx:xs[k]?=some x) (hy:ys[k]?=some y)
  (hQ:∀ h',IsZip h' z TI TO (rawInt s.heap.objs.size)->IsPair h' TO x y->IsIt b1 h' i1 l1 (k+1)->IsIt b2 h' i2 l2 (k+1)->IsPair h' s.heap.objs.size x y->h'.objs.size=s.heap.objs.size+1 ->
   (∀ c o,c≠z->c≠TO->c≠i1->c≠i2->s.heap.get? c=some o->h'.get? c=some o)->Q (.ref s.heap.objs.size) { s with heap:=h' }) :
  wpAny (model prog w) A (Builtin.«zip.__next__» ⟨[.ref z],[]⟩) (fun fin s'=>∃ v,fin=.done (.ret v)∧Q v s') E s:=by
 show wpAny _ _ (field (.ref z) 2 >>= _) _ _ _; refine wpAny_bind (wpAny_field hz rfl (x:=.bool false) rfl ?_)
 show wpAny _ _ (field (.ref z) 3 >>= _) _ _ _; refine wpAny_bind (wpAny_field hz rfl (x:=.ref TI) rfl ?_); refine wpAny_bind (wpAny_seqItems hTI rfl ?_)
 show wpAny _ _ (Builtin.SmallTypes.ownedTupleIsFree (.ref z) >>= _) _ _ _; refine wpAny_bind ?_; unfold Builtin.SmallTypes.ownedTupleIsFree
 refine wpAny_bind (wpAny_field hz rfl (x:=.none) rfl (wpAny_pure ?_)); simp only [if_true]; refine wpAny_bind (wpAny_rule ?_); refine wpAny_bind (wpAny_field hz rfl (x:=.ref TO) rfl ?_)
 refine wpAny_bind (wpAny_setField_rec hz (by simp) fun g1 hz1 hs1=>?_); replace hz1:IsZip g1 z TI TO .ellipsis:=hz1
 refine wpAny_bind ?_; simp only [List.zipIdx_cons,List.zipIdx_nil,List.forIn_cons,List.forIn_nil]; refine wpAny_bind (wpAny_bind (wpAny_onRaise ?_))
 show wpAny _ _ (Builtin.SmallTypes.nextOf (.ref i1) >>= _) _ _ _
 refine wpAny_bind (Qf3 (h1.at fun o e=>hs1.extBut _ o D.i1z e) (hl1.at fun o e=>hs1.extBut _ o D.l1z e) hx fun g2 h12 hs2=>wpAny_pure ?_)
 have hTO2:IsPair g2 TO a b:=hs2.extBut _ _ D.TOi1 (hs1.extBut _ _ D.TOz hTO)
 refine wpAny_bind (wpAny_seqItems hTO2 rfl ?_); refine wpAny_bind (wpAny_updateSeq_pair hTO2 fun g3 hTO3 hs3=>?_); replace hTO3:IsPair g3 TO x b:=hTO3
 refine wpAny_bind (wpAny_letGo (wpAny_pure ?_)); refine wpAny_bind (wpAny_bind (wpAny_onRaise ?_))
 show wpAny _ _ (Builtin.SmallTypes.nextOf (.ref i2) >>= _) _ _ _
 refine wpAny_bind (Qf3 (h2.at fun o e=>hs3.extBut _ o D.TOi2.symm (hs2.extBut _ o D.i12.symm (hs1.extBut _ o D.i2z e))) (hl2.at fun o e=>hs3.extBut _ o D.l2TO (hs2.extBut _ o D.l2i1 (hs1.extBut _ o D.l2z e))) hy fun g4 h24 hs4=>wpAny_pure ?_)
 have hTO4:IsPair g4 TO x b:=hs4.extBut _ _ D.TOi2 hTO3
 refine wpAny_bind (wpAny_seqItems hTO4 rfl ?_); refine wpAny_bind (wpAny_updateSeq_pair hTO4 fun g5 hTO5 hs5=>?_); replace hTO5:IsPair g5 TO x y:=hTO5
 refine wpAny_bind (wpAny_letGo (wpAny_pure (wpAny_pure ?_))); refine wpAny_bind (wpAny_seqItems hTO5 rfl ?_); refine wpAny_bind (wpAny_newTuple ?_)
 have hsz:g5.objs.size=s.heap.objs.size:=by rw [hs5.1,hs4.1,hs3.1,hs2.1,hs1.1]
 have hz5:IsZip g5 z TI TO .ellipsis:=hs5.extBut _ _ D.TOz.symm (hs4.extBut _ _ D.i2z.symm (hs3.extBut _ _ D.TOz.symm (hs2.extBut _ _ D.i1z.symm hz1)))
 have hk5:∀ c o,c≠z->c≠TO->c≠i1->c≠i2->s.heap.get? c=some o->g5.get? c=some o:=fun c o c1 c2 c3 c4 e=>hs5.extBut _ _ c2 (hs4.extBut _ _ c4 (hs3.extBut _ _ c2 (hs2.extBut _ _ c3 (hs1.extBut _ _ c1 e))))
 have h15:IsIt b1 g5 i1 l1 (k+1):=h12.at fun o e=>hs5.extBut _ o D.TOi1.symm (hs4.extBut _ o D.i12 (hs3.extBut _ o D.TOi1.symm e))
 have h25:IsIt b2 g5 i2 l2 (k+1):=h24.at fun o e=>hs5.extBut _ o D.TOi2.symm e
 have hzlt:z<g5.objs.size:=Heap.lt_size hz5
 show wpAny _ _ (Builtin.SmallTypes.ownedTupleHandOut (.ref z) (.ref g5.objs.size) >>= _) _ _ _
 refine wpAny_bind ?_; unfold Builtin.SmallTypes.ownedTupleHandOut
 have hz6:IsZip (g5.push { cls:=.type "tuple",data:=.seq #[x,y] }) z TI TO .ellipsis:=Heap.get?_push_of_some _ hz5
 refine wpAny_bind (wpAny_setField_rec hz6 (by simp) fun g7 hz7 hs7=>?_); replace hz7:IsZip g7 z TI TO (rawInt g5.objs.size):=hz7
 refine wpAny_setField_rec hz7 (by simp) fun g8 hz8 hs8=>?_; replace hz8:IsZip g8 z TI TO (rawInt g5.objs.size):=hz8
 have upz:∀ c o,c≠z->g5.get? c=some o->g8.get? c=some o:=fun c o c1 e=>hs8.extBut _ _ c1 (hs7.extBut _ _ c1 (Heap.get?_push_of_some _ e))
 have hT8:IsPair g8 g5.objs.size x y:=hs8.extBut _ _ (Nat.ne_of_gt hzlt) (hs7.extBut _ _ (Nat.ne_of_gt hzlt) (Heap.get?_push_size _ rfl))
 have hsz8:g8.objs.size=g5.objs.size+1:=by rw [hs8.1,hs7.1,Heap.size_push]
 rw [hsz] at hz8 hT8 hsz8; refine wpAny_pure ⟨_,rfl,?_⟩; show Q (.ref g5.objs.size) _; rw [hsz]
 exact hQ g8 hz8 (upz _ _ D.TOz hTO5) (h15.at fun o e=>upz _ o D.i1z e) (h25.at fun o e=>upz _ o D.i2z e) hT8 hsz8 fun c o c1 c2 c3 c4 e=>upz c o c1 (hk5 c o c1 c2 c3 c4 e)
theorem Qkk {b1 b2:Bool} {z TI TO i1 i2 l1 l2:Addr} {k:Nat} {xs ys:Array Value} {a b:Value} {Q:Fin->Shared->Prop} (hh:A.handled=none) (D:ZipApart z TI TO i1 i2 l1 l2)
  (hz:IsZip s.heap z TI TO .none) (hTI:IsPair s.heap TI (.ref i1) (.ref i2)) (hTO:IsPair s.heap TO a b) (h1:IsIt b1 s.heap i1 l1 k) (h2:IsIt b2 s.heap i2 l2 k) (hl1:IsSq b1 s.heap l1 xs) (hl2:IsSq b2 s.heap l2 ys) (hend:xs[k]?=none∨ys[k]?=none)
  (hE:∀ h' e,(∀ c o,c≠z->c≠TO->c≠i1->c≠i2->s.heap.get? c=some o->h'.get? c=some o)->(∃ o,h'.get? e=some o∧o.cls=.type "StopIteration")->E (.ref e) { s with heap:=h' }) :
  wpAny (model prog w) A (Builtin.«zip.__next__» ⟨[.ref z],[]⟩) Q E s:=by
 show wpAny _ _ (field (.ref z) 2 >>= _) _ _ _; refine wpAny_bind (wpAny_field hz rfl (x:=.bool false) rfl ?_)
 show wpAny _ _ (field (.ref z) 3 >>= _) _ _ _; refine wpAny_bind (wpAny_field hz rfl (x:=.ref TI) rfl ?_); refine wpAny_bind (wpAny_seqItems hTI rfl ?_)
 show wpAny _ _ (Builtin.SmallTypes.ownedTupleIsFree (.ref z) >>= _) _ _ _; refine wpAny_bind ?_; unfold Builtin.SmallTypes.ownedTupleIsFree
 refine wpAny_bind (wpAny_field hz rfl (x:=.none) rfl (wpAny_pure ?_)); simp only [if_true]; refine wpAny_bind (wpAny_rule ?_); refine wpAny_bind (wpAny_field hz rfl (x:=.ref TO) rfl ?_)
 refine wpAny_bind (wpAny_setField_rec hz (by simp) fun g1 hz1 hs1=>?_); replace hz1:IsZip g1 z TI TO .ellipsis:=hz1
 refine wpAny_bind ?_; simp only [List.zipIdx_cons,List.zipIdx_nil,List.forIn_cons,List.forIn_nil]; refine wpAny_bind (wpAny_bind (wpAny_onRaise ?_))
 show wpAny _ _ (Builtin.SmallTypes.nextOf (.ref i1) >>= _) _ _ _
 cases hx:xs[k]? with
 | none =>
  refine wpAny_bind (Qf4 hh (h1.at fun o e=>hs1.extBut _ o D.i1z e) (hl1.at fun o e=>hs1.extBut _ o D.l1z e) hx fun g2 e hs2 he=>?_)
  obtain⟨oe,hoe,hce⟩:=he; have hz2:IsZip g2 z TI TO .ellipsis:=hs2 _ _ D.i1z.symm hz1
  have hez:e≠z:=fun q=>by subst q; rw [hz2] at hoe; cases hoe; simp at hce
  refine wpAny_setField_rec hz2 (by simp) fun g3 _ hs3=>hE g3 e (fun c o c1 _ c3 _ q=>hs3.extBut _ _ c1 (hs2 _ _ c3 (hs1.extBut _ _ c1 q))) ⟨oe,hs3.extBut _ _ hez hoe,hce⟩
 | some x =>
  have hy:ys[k]?=none:=by rcases hend with q | q; (· rw [hx] at q; cases q); exact q
  refine wpAny_bind (Qf3 (h1.at fun o e=>hs1.extBut _ o D.i1z e) (hl1.at fun o e=>hs1.extBut _ o D.l1z e) hx fun g2 h12 hs2=>wpAny_pure ?_)
  have hTO2:IsPair g2 TO a b:=hs2.extBut _ _ D.TOi1 (hs1.extBut _ _ D.TOz hTO)
  refine wpAny_bind (wpAny_seqItems hTO2 rfl ?_); refine wpAny_bind (wpAny_updateSeq_pair hTO2 fun g3 hTO3 hs3=>?_); refine wpAny_bind (wpAny_letGo (wpAny_pure ?_)); refine wpAny_bind (wpAny_bind (wpAny_onRaise ?_))
  show wpAny _ _ (Builtin.SmallTypes.nextOf (.ref i2) >>= _) _ _ _
  refine wpAny_bind (Qf4 hh (h2.at fun o e=>hs3.extBut _ o D.TOi2.symm (hs2.extBut _ o D.i12.symm (hs1.extBut _ o D.i2z e))) (hl2.at fun o e=>hs3.extBut _ o D.l2TO (hs2.extBut _ o D.l2i1 (hs1.extBut _ o D.l2z e))) hy fun g4 e hs4 he=>?_)
  obtain⟨oe,hoe,hce⟩:=he; have hz4:IsZip g4 z TI TO .ellipsis:=hs4 _ _ D.i2z.symm (hs3.extBut _ _ D.TOz.symm (hs2.extBut _ _ D.i1z.symm hz1))
  have hez:e≠z:=fun q=>by subst q; rw [hz4] at hoe; cases hoe; simp at hce
  refine wpAny_setField_rec hz4 (by simp) fun g5 _ hs5=>hE g5 e (fun c o c1 c2 c3 c4 q=>hs5.extBut _ _ c1 (hs4 _ _ c4 (hs3.extBut _ _ c2 (hs2.extBut _ _ c3 (hs1.extBut _ _ c1 q))))) ⟨oe,hs5.extBut _ _ hez hoe,hce⟩
theorem QeS {b1 b2:Bool} {z TI TO i1 i2 l1 l2:Addr} {k:Nat} {xs ys:Array Value} {x y a b:Value} {Q:Option Value->Shared->Prop} (D:ZipApart z TI TO i1 i2 l1 l2)
  (hz:IsZip s.heap z TI TO .none) (hTI:IsPair s.heap TI (.ref i1) (.ref i2)) (hTO:IsPair s.heap TO a b) (h1:IsIt b1 s.heap i1 l1 k) (h2:IsIt b2 s.heap i2 l2 k) (hl1:IsSq b1 s.heap l1 xs) (hl2:IsSq b2 s.heap l2 ys) (hx:xs[k]?=some x) (hy:ys[k]?=some y)
  (hQ:∀ h',IsZip h' z TI TO (rawInt s.heap.objs.size)->IsPair h' TO x y->IsIt b1 h' i1 l1 (k+1)->IsIt b2 h' i2 l2 (k+1)->IsPair h' s.heap.objs.size x y->h'.objs.size=s.heap.objs.size+1 ->
   (∀ c o,c≠z->c≠TO->c≠i1->c≠i2->s.heap.get? c=some o->h'.get? c=some o)->Q (some (.ref s.heap.objs.size)) { s with heap:=h' }):wpAny (model prog w) A (pyNext (.ref z)) Q E s:=by
 have hT:s.TypeIs (.ref z) "zip":=⟨_,hz,rfl⟩; unfold pyNext
 exact wpAny_bind (wpAny_attempt (wpAny_callSpecial?_slot (name:=Str.ofString "__next__") hT F.slot_zip_next (wpAny_call_entry F.slot_zip_next hT F.entry_zip_next (QiK D hz hTI hTO h1 h2 hl1 hl2 hx hy fun h' a1 a2 a3 a4 a5 a6 a7=>wpAny_pure (hQ h' a1 a2 a3 a4 a5 a6 a7)) (F.args_zip_next_1 _))))
theorem Qco {b1 b2:Bool} {z TI TO i1 i2 l1 l2:Addr} {k:Nat} {xs ys:Array Value} {a b:Value} {Q:Option Value->Shared->Prop} (hh:A.handled=none) (D:ZipApart z TI TO i1 i2 l1 l2)
  (hz:IsZip s.heap z TI TO .none) (hTI:IsPair s.heap TI (.ref i1) (.ref i2)) (hTO:IsPair s.heap TO a b) (h1:IsIt b1 s.heap i1 l1 k) (h2:IsIt b2 s.heap i2 l2 k) (hl1:IsSq b1 s.heap l1 xs) (hl2:IsSq b2 s.heap l2 ys) (hend:xs[k]?=none∨ys[k]?=none)
  (hQ:∀ h',(∀ c o,c≠z->c≠TO->c≠i1->c≠i2->s.heap.get? c=some o->h'.get? c=some o)->Q none { s with heap:=h' }):wpAny (model prog w) A (pyNext (.ref z)) Q E s:=by
 have hT:s.TypeIs (.ref z) "zip":=⟨_,hz,rfl⟩; unfold pyNext
 refine wpAny_bind (wpAny_attempt (wpAny_callSpecial?_slot (name:=Str.ofString "__next__") hT F.slot_zip_next (wpAny_call_entry F.slot_zip_next hT F.entry_zip_next (Qkk hh D hz hTI hTO h1 h2 hl1 hl2 hend fun h' e hk he=>?_) (F.args_zip_next_1 _))))
 obtain⟨o,ho,hc⟩:=he; refine wpAny_bind (wpAny_isInstance (T:="StopIteration") (b:=true) ⟨o,ho,hc⟩ isSubtype_stop ?_); exact wpAny_pure (hQ _ hk)
noncomputable def Qkl (b:Bool):String:=if b=true then "list_iterator" else "tuple_iterator"
noncomputable def Qcp (b:Bool) (l:Addr):Obj:={ cls:=.type (Qkl b),data:=.fields #[.ref l,.int 0 0] }
theorem Qc3 {b:Bool} {l:Addr} {xs:Array Value} {Q:Value->Shared->Prop} (hl:IsSq b s.heap l xs) (h:Q (.ref s.heap.objs.size) { s with heap:=s.heap.push (Qcp b l) }):wpAny (model prog w) A (pyIter (.ref l)) Q E s:=by
 cases b
 ·exact wpAny_pyIter_tuple hl h
 ·exact wpAny_pyIter_list hl h
theorem IsSq.push {b:Bool} {h:Heap} {l:Addr} {xs:Array Value} (x:IsSq b h l xs) (o:Obj):IsSq b (h.push o) l xs:=x.at fun _ e=>Heap.get?_push_of_some _ e
noncomputable abbrev zH1 (b1:Bool) (h:Heap) (l1:Addr):Heap:=h.push (Qcp b1 l1)
noncomputable abbrev zH2 (b1 b2:Bool) (h:Heap) (l1 l2:Addr):Heap:=(zH1 b1 h l1).push (Qcp b2 l2)
noncomputable abbrev zH3 (b1 b2:Bool) (h:Heap) (l1 l2:Addr):Heap:=(zH2 b1 b2 h l1 l2).push { cls:=.type "tuple",data:=.seq #[.ref h.objs.size,.ref (zH1 b1 h l1).objs.size] }
noncomputable abbrev zH4 (b1 b2:Bool) (h:Heap) (l1 l2:Addr):Heap:=(zH3 b1 b2 h l1 l2).push { cls:=.type "tuple",data:=.seq #[.none,.none] }
noncomputable abbrev zH5 (b1 b2:Bool) (h:Heap) (l1 l2:Addr):Heap:=(zH4 b1 b2 h l1 l2).push { cls:=.type "zip",data:=.fields #[.none,.bool false,.bool false,.ref (zH2 b1 b2 h l1 l2).objs.size,.ref (zH3 b1 b2 h l1 l2).objs.size] }
theorem QiL (b1 b2:Bool) (l1 l2:Addr) (xs ys:Array Value):Meets (Builtin.«zip.__new__» ⟨[.type "zip",.ref l1,.ref l2],[]⟩) (fun _ R s=>IsSq b1 s.heap l1 xs∧IsSq b2 s.heap l2 ys∧R (.ok (.ret (.ref (zH4 b1 b2 s.heap l1 l2).objs.size))) { s with heap:=zH5 b1 b2 s.heap l1 l2 }) :=
 .of_wp fun prog w A R s h=>by
  obtain⟨hp,g,d,tk,os⟩:=s; obtain⟨hl1,hl2,h⟩:=h; have hsub:=sub_zip
  have hL1:IsSq b1 (Shared.heap ⟨hp,g,d,tk,os⟩) l1 xs:=hl1
  have hL2:IsSq b2 (Shared.heap ⟨hp.push (Qcp b1 l1),g,d,tk,os⟩) l2 ys:=hl2.push _
  wp_walk using Qc3 hL1,Qc3 hL2
  exact⟨_,rfl,h⟩
theorem itAt (b:Bool) {h:Heap} {i l:Addr} (e:h.get? i=some (Qcp b l)):IsIt b h i l 0:=by
 cases b
 ·exact⟨_,e,rfl,rfl⟩
 ·exact⟨_,e,rfl,rfl⟩
theorem Qhi {b1 b2:Bool} {l1 l2:Addr} {xs ys:Array Value} {Q:Value->Shared->Prop} (hl1:IsSq b1 s.heap l1 xs) (hl2:IsSq b2 s.heap l2 ys)
  (h:∀ h',IsZip h' (s.heap.objs.size+4) (s.heap.objs.size+2) (s.heap.objs.size+3) .none->IsPair h' (s.heap.objs.size+2) (.ref s.heap.objs.size) (.ref (s.heap.objs.size+1))->IsPair h' (s.heap.objs.size+3) .none .none ->
   IsIt b1 h' s.heap.objs.size l1 0->IsIt b2 h' (s.heap.objs.size+1) l2 0->h'.objs.size=s.heap.objs.size+5->(∀ c o,s.heap.get? c=some o->h'.get? c=some o)->Q (.ref (s.heap.objs.size+4)) { s with heap:=h' }) :
  wpAny (model prog w) A (call (.type "zip") [.ref l1,.ref l2]) Q E s:=by
 refine callType_new F.called_zip (by decide) (F.typeCall_zip_2 _ _) (F.newCall_zip_2 _ _) (fun obj=>F.args_object_init_3 obj _ _) F.entry_zip_new (QiL b1 b2 l1 l2 xs ys) ⟨hl1,hl2,?_⟩
 have z1:(zH1 b1 s.heap l1).objs.size=s.heap.objs.size+1:=Heap.size_push ..
 have z2:(zH2 b1 b2 s.heap l1 l2).objs.size=s.heap.objs.size+2:=by rw [Heap.size_push,z1]
 have z3:(zH3 b1 b2 s.heap l1 l2).objs.size=s.heap.objs.size+3:=by rw [Heap.size_push,z2]
 have z4:(zH4 b1 b2 s.heap l1 l2).objs.size=s.heap.objs.size+4:=by rw [Heap.size_push,z3]
 have z5:(zH5 b1 b2 s.heap l1 l2).objs.size=s.heap.objs.size+5:=by rw [Heap.size_push,z4]
 have g5:(zH5 b1 b2 s.heap l1 l2).get? (zH4 b1 b2 s.heap l1 l2).objs.size=some _:=Heap.get?_push_size _ rfl
 have g4:(zH5 b1 b2 s.heap l1 l2).get? (zH3 b1 b2 s.heap l1 l2).objs.size=some _:=Heap.get?_push_of_some _ (Heap.get?_push_size _ rfl)
 have g3:(zH5 b1 b2 s.heap l1 l2).get? (zH2 b1 b2 s.heap l1 l2).objs.size=some _:=Heap.get?_push_of_some _ (Heap.get?_push_of_some _ (Heap.get?_push_size _ rfl))
 have g2:(zH5 b1 b2 s.heap l1 l2).get? (zH1 b1 s.heap l1).objs.size=some (Qcp b2 l2):=Heap.get?_push_of_some _ (Heap.get?_push_of_some _ (Heap.get?_push_of_some _ (Heap.get?_push_size _ (by unfold Qcp; rfl))))
 have g1:(zH5 b1 b2 s.heap l1 l2).get? s.heap.objs.size=some (Qcp b1 l1):=Heap.get?_push_of_some _ (Heap.get?_push_of_some _ (Heap.get?_push_of_some _ (Heap.get?_push_of_some _ (Heap.get?_push_size _ (by unfold Qcp; rfl)))))
 show _∧_
 rw [z2,z3,z4] at g5; rw [z1,z2] at g3; rw [z3] at g4; rw [z1] at g2; rw [z4]
 exact⟨⟨_,g5,rfl⟩,h _ g5 g3 g4 (itAt b1 g1) (itAt b2 g2) z5 fun c o q=>Heap.get?_push_of_some _ (Heap.get?_push_of_some _ (Heap.get?_push_of_some _ (Heap.get?_push_of_some _ (Heap.get?_push_of_some _ q))))⟩
end
end L3
end
section
namespace L3
open PySem PySem.Spec PyProof.Rows L2
noncomputable def Sq (b:Bool) (K:PySem.W.Frag) (H:Hp) (a:Addr) (xs:List V):Prop:=if b=true then SqL K H a xs else SqT K H a xs
theorem Sq.real {b:Bool} {X:Cx} {pins:List (Addr×Obj)} {σ:L2.St} {H:Hp} {s:Shared} {a:Addr} {xs:List V} (I:Inv X pins σ H s) (h:Sq b X.K H a xs):∃ its:List Value,Vals xs its∧IsSq b s.heap a its.toArray:=by
 cases b
 ·obtain⟨its,r,p,_⟩:=I.tuple (show SqT X.K H a xs from h); exact⟨its,r,p⟩
 ·obtain⟨its,r,p,_⟩:=I.list (show SqL X.K H a xs from h); exact⟨its,r,p.isList⟩
theorem Sq.inj {b:Bool} {X:Cx} {pins:List (Addr×Obj)} {σ:L2.St} {H:Hp} {s:Shared} {a:Addr} {xs ys:List V} (I:Inv X pins σ H s) (h:Sq b X.K H a xs) (h':Sq b X.K H a ys):xs=ys:=by
 cases b
 ·exact I.tuple_inj h h'
 ·exact I.list_inj h h'
noncomputable def Itz (K:PySem.W.Frag) (b1 b2:Bool) (a1 a2:Addr):It :=
  ⟨fun i H=>∃ xs ys x y,Sq b1 K H a1 xs∧Sq b2 K H a2 ys∧xs[i]?=some x∧ys[i]?=some y,
   fun i H v H'=>∃ p x y,H p=none∧v=.ref p∧H'=upd H p (.tup [x,y])∧(∀ xs,Sq b1 K H a1 xs->xs[i]?=some x)∧∀ ys,Sq b2 K H a2 ys->ys[i]?=some y,
   fun i H=>∃ xs ys,Sq b1 K H a1 xs∧Sq b2 K H a2 ys∧(xs.length≤i∨ys.length≤i)⟩
noncomputable def Qll (b1 b2:Bool) (z TI TO i1 i2 l1 l2:Addr) (i:Nat) (h:Heap):Prop :=
 IsZip h z TI TO .none∧IsPair h TI (.ref i1) (.ref i2)∧(∃ a b,IsPair h TO a b)∧IsIt b1 h i1 l1 i∧IsIt b2 h i2 l2 i
theorem Qhj {P:Program} {w:World} {K:PySem.W.Frag} {elts:List Expr} {kk:Nat} {tp:Pos} (b1 b2:Bool) (z TI TO i1 i2 l1 l2:Addr) (D:ZipApart z TI TO i1 i2 l1 l2) :
  Turn P w K (.Tuple elts kk tp) (Itz K b1 b2 l1 l2) [z,TI,TO,i1,i2] z (Qll b1 b2 z TI TO i1 i2 l1 l2) where
 mem:=by simp
 obj:=fun i h st b hb=>by
  obtain⟨hz,hTI,⟨a,c,hTO⟩,h1,h2⟩:=st
  have hb':b=z∨b=TI∨b=TO∨b=i1∨b=i2:=by simpa using hb
  rcases hb' with rfl | rfl | rfl | rfl | rfl
  ·exact⟨_,hz,fun v q=>by cases q⟩
  ·exact⟨_,hTI,fun v q=>by cases q⟩
  ·exact⟨_,hTO,fun v q=>by cases q⟩
  ·exact h1.rec
  ·exact h2.rec
 keep:=fun i h h' st k=>by
  obtain⟨hz,hTI,⟨a,c,hTO⟩,h1,h2⟩:=st
  exact⟨k z (by simp) _ hz,k TI (by simp) _ hTI,⟨a,c,k TO (by simp) _ hTO⟩,h1.at fun o e=>k i1 (by simp) o e,h2.at fun o e=>k i2 (by simp) o e⟩
 item:=by
  intro X hP hw hK hc i pins s σ H E I hf st hg
  subst hP hw hK
  obtain⟨xs,ys,x,y,q1,q2,hx,hy⟩:=hg
  obtain⟨us,r1,p1⟩:=q1.real I
  obtain⟨ts,r2,p2⟩:=q2.real I
  obtain⟨u,hu,ru⟩:=r1.get hx
  obtain⟨t,ht,rt⟩:=r2.get hy
  obtain⟨hz,hTI,⟨a,c,hTO⟩,h1,h2⟩:=st
  have fz:=hf z (by simp)
  have fTI:=hf TI (by simp)
  have fTO:=hf TO (by simp)
  have f1:=hf i1 (by simp)
  have f2:=hf i2 (by simp)
  refine QeS D hz hTI hTO h1 h2 p1 p2 (by simpa using hu) (by simpa using ht) fun h' a1 a2 a3 a4 a5 a6 hk=>?_
  have hp:H s.heap.objs.size=none:=I.hok.fresh (Nat.le_refl _)
  have inC:∀ b,b∈[z,TO,i1,i2]->FpOk X pins H b:=fun b hb=>by
   have hb':b=z∨b=TO∨b=i1∨b=i2:=by simpa using hb
   rcases hb' with rfl | rfl | rfl | rfl
   ·exact fz
   ·exact fTO
   ·exact f1
   ·exact f2
  have hk':∀ b o,b∉[z,TO,i1,i2]->s.heap.get? b=some o->h'.get? b=some o:=fun b o hb e=>hk b o (fun q=>hb (by simp [q])) (fun q=>hb (by simp [q])) (fun q=>hb (by simp [q])) (fun q=>hb (by simp [q])) e
  have nC:∀ b v,H b=some v->b∉[z,TO,i1,i2]:=fun b v e hb=>by rw [(inC b hb).1] at e; cases e
  have nP:∀ b v,H b=some v->b≠s.heap.objs.size:=fun b v e=>QO e hp
  have I1:Inv X pins σ (upd H s.heap.objs.size (.tup [x,y])) { s with heap:=h' }:=by
   refine I.step (g':=s.gens) (t':=s.toks) (d':=s.drawn) (ch:=[z,TO,i1,i2]) (fun b hb=>⟨(inC b hb).2.2.2.1,(inC b hb).2.1,(inC b hb).2.2.2.2.1,(inC b hb).2.2.2.2.2⟩) (fun b o _ _ hb e _=>hk' b o hb e) (fun b o _ _ hb e _=>⟨o.slots,hk' b o hb e⟩)
    (fun b o hb e n=>by rw [Qx (Nat.ne_of_lt (Heap.lt_size e))]; exact n) (fun b o hb e=>⟨o,hk' b o hb e⟩) (fun b v e=>by rw [Qx (nP b _ e)]; exact e) (fun b o v e=>by rw [Qx (nP b _ e)]; exact e) (fun b ps e=>⟨#[],by rw [Qx (nP b _ e),e]; simp⟩)
    (fun m hm=>?_) (fun b v e=>?_) I.bare
   ·obtain⟨o,es,ep,ho,rr⟩:=hm
    exact⟨o,es,ep,hk' _ o (fun hb=>(inC _ hb).2.1 rfl) ho,rr⟩
   ·by_cases hb:b=s.heap.objs.size
    ·subst hb
     rw [Qu] at e; cases e
     exact⟨by rw [sizeLine_eq]; show 2≤16777216; decide,[u,t],.cons ru (.cons rt .nil),⟨_,a5,rfl,_,rfl⟩⟩
    ·rw [Qx hb] at e
     refine(I.hok b v e).stay (fun c' v' hc' q=>?_) (fun c' q=>by rw [Qx (nP c' _ q)]; exact q) fun c' xs' q=>by rw [Qx (nP c' _ q)]; exact q
     rcases hc' with rfl | hc'
     ·exact hk' _ _ (nC _ _ e) q
     ·exact hk' _ _ (nC _ _ hc') q
  refine⟨_,rfl,wpAny_letOwnedTupleGo_zip a1 fun h'' hz'' hs''=>?_⟩
  have hpz:s.heap.objs.size≠z:=Nat.ne_of_gt (Heap.lt_size hz)
  have I2:Inv X pins σ (upd H s.heap.objs.size (.tup [x,y])) { s with heap:=h'' }:=Inv.turned (s:={ s with heap:=h' }) (t':=s.toks) I1 (fun b o hb e=>hs''.extBut b o hb e) (by rw [Qx (Ne.symm hpz)]; exact fz.1) fz.2.1 fz.2.2.2.1 fz.2.2.2.2.1 fz.2.2.2.2.2
  refine⟨.ref s.heap.objs.size,_,I2,rfl,⟨_,x,y,hp,rfl,rfl,fun xs' q=>by rw [q.inj I q1]; exact hx,fun ys' q=>by rw [q.inj I q2]; exact hy⟩,
   ⟨hz'',hs''.extBut _ _ D.TIz (hk _ _ D.TIz D.TITO D.TIi1 D.TIi2 hTI),⟨_,_,hs''.extBut _ _ D.TOz a2⟩,a3.at fun o e=>hs''.extBut _ o D.i1z e,a4.at fun o e=>hs''.extBut _ o D.i2z e⟩,fun b hb=>?_⟩
  have lt:b<s.heap.objs.size:=by
   have hb':b=z∨b=TI∨b=TO∨b=i1∨b=i2:=by simpa using hb
   rcases hb' with rfl | rfl | rfl | rfl | rfl
   ·exact Heap.lt_size hz
   ·exact Heap.lt_size hTI
   ·exact Heap.lt_size hTO
   ·exact h1.lt
   ·exact h2.lt
  rw [Qx (Nat.ne_of_lt lt)]
  exact(hf b hb).1
 done:=by
  intro X hP hw hK hc i pins s σ H E I hf st hg
  subst hP hw hK
  obtain⟨xs,ys,q1,q2,hl⟩:=hg
  obtain⟨us,r1,p1⟩:=q1.real I
  obtain⟨ts,r2,p2⟩:=q2.real I
  have l1:=r1.length
  have l2:=r2.length
  obtain⟨hz,hTI,⟨a,c,hTO⟩,h1,h2⟩:=st
  have inC:∀ b,b∈[z,TO,i1,i2]->FpOk X pins H b:=fun b hb=>hf b (by
   have hb':b=z∨b=TO∨b=i1∨b=i2:=by simpa using hb
   rcases hb' with rfl | rfl | rfl | rfl <;> simp)
  refine Qco (I.ok.hd hc) D hz hTI hTO h1 h2 p1 p2 (by
   rcases hl with z | z
   ·exact .inl (by simp; omega)
   ·exact .inr (by simp; omega)) fun h' hk=>⟨rfl,?_⟩
  have hk':∀ b o,b∉[z,TO,i1,i2]->s.heap.get? b=some o->h'.get? b=some o:=fun b o hb e=>hk b o (fun q=>hb (by simp [q])) (fun q=>hb (by simp [q])) (fun q=>hb (by simp [q])) (fun q=>hb (by simp [q])) e
  have nC:∀ b v,H b=some v->b∉[z,TO,i1,i2]:=fun b v e hb=>by rw [(inC b hb).1] at e; cases e
  refine I.step (g':=s.gens) (t':=s.toks) (d':=s.drawn) (ch:=[z,TO,i1,i2]) (fun b hb=>⟨(inC b hb).2.2.2.1,(inC b hb).2.1,(inC b hb).2.2.2.2.1,(inC b hb).2.2.2.2.2⟩) (fun b o _ _ hb e _=>hk' b o hb e) (fun b o _ _ hb e _=>⟨o.slots,hk' b o hb e⟩)
   (fun b o hb e n=>n) (fun b o hb e=>⟨o,hk' b o hb e⟩) (fun b v e=>e) (fun b o v e=>e) (fun b ps e=>⟨#[],by rw [e]; simp⟩) (fun m hm=>?_) (fun b v e=>?_) I.bare
  ·obtain⟨o,es,ep,ho,rr⟩:=hm
   exact⟨o,es,ep,hk' _ o (fun hb=>(inC _ hb).2.1 rfl) ho,rr⟩
  ·refine(I.hok b v e).stay (fun c' v' hc' q=>?_) (fun c' q=>q) fun c' xs' q=>q
   rcases hc' with rfl | hc'
   ·exact hk' _ _ (nC _ _ e) q
   ·exact hk' _ _ (nC _ _ hc') q
 self:=fun _ _ _ _ _ st h=>wpAny_pyIter_zip st.1 h
section
variable {X:Cx} {ca:Nat->Addr} {e1 e2:Expr} {m1 m2:ME} {p pos tp:Pos} {elts:List Expr} {kk:Nat}
theorem Qkm {ta:TA} (hg:Gl X "zip") (hm:X.mg "zip" = none) (ha:PA X [e1,e2] ta) (hs:starEach [e1,e2] X.env=[(false,eval e1 X.env),(false,eval e2 X.env)]) (hs2:starEach [e2] X.env=[(false,eval e2 X.env)]) :
  PI X (.Tuple elts kk tp) (.Call (.Name "zip" p) [e1,e2] [] pos) (fun σ H R=>ta σ H fun vs H1=>∃ b1 b2 a1 a2 xs ys,vs=[.ref a1,.ref a2]∧Sq b1 X.K H1 a1 xs∧Sq b2 X.K H1 a2 ys∧R (Itz X.K b1 b2 a1 a2) H1):=by
 intro pins s σ H R I h
 refine Call_ (Qa6 I hg hm boot_zip (PyProof.Rows.callWith_type1 (thn (ha pos pins s σ H _ I h) fun us s1 ⟨vs,H1,I1,r1,q1⟩=>?_) (by rw [hs,hs2]) (by rw [hs2]; rfl)))
 obtain⟨b1,b2,a1,a2,xs,ys,rfl,q1,q2,q⟩:=q1
 cases r1 with
 | cons ru rr =>
  cases rr with
  | cons rt rr =>
   cases rr
   cases ru
   cases rt
   obtain⟨its1,v1,p1⟩:=q1.real I1
   obtain⟨its2,v2,p2⟩:=q2.real I1
   refine Qhi p1 p2 fun h' hz hTI hTO hi1 hi2 hsz hk=>wpAny_pyIter_zip hz ?_
   have I2:Inv X pins σ H1 { s1 with heap:=h' }:=I1.kept (t':=s1.toks) hk
   refine⟨s1.heap.objs.size+4,_,_,_,H1,rfl,I2,Qhj b1 b2 _ (s1.heap.objs.size+2) (s1.heap.objs.size+3) s1.heap.objs.size (s1.heap.objs.size+1) a1 a2 (PyProof.Rows.zipApart_new p1.lt p2.lt),⟨hz,hTI,⟨_,_,hTO⟩,hi1,hi2⟩,fun b hb=>?_,q⟩
   have hb':b=s1.heap.objs.size+4∨b=s1.heap.objs.size+2∨b=s1.heap.objs.size+3∨b=s1.heap.objs.size∨b=s1.heap.objs.size+1:=by simpa using hb
   have hle:s1.heap.objs.size≤b:=by rcases hb' with h | h | h | h | h <;> rw [h] <;> first | exact Nat.le_refl _ | exact Nat.le_add_right _ _
   exact I1.fpOk hle (I1.hok.fresh hle)
theorem Jv {K:PySem.W.Frag} {μ:List Addr} {H:Hp} {g:G} {v:V} {d:D} {b:Bool} {ds:List D} (r:GRep K ca μ H g) (q:Den K μ H v d) (h:QE g d=some (b,ds)):∃ a vs,v=.ref a∧Sq b K H a vs∧Dens K μ H vs ds:=by
 cases q with
 | @tup a vs es ht hs=>cases h; exact⟨a,vs,rfl,ht,hs⟩
 | @fl a vs es ht hs=>cases h; exact⟨a,vs,rfl,ht.sq,hs⟩
 | @ref n a hn =>
  unfold QE at h
  dsimp only at h
  cases hg:g[n]? with
  | none=>rw [hg] at h; cases h
  | some o =>
   rw [hg] at h
   obtain⟨a',ha',ob⟩:=r.addr hg
   rw [hn] at ha'; cases ha'
   cases o with
   | lst es=>cases h; obtain⟨vs,hH,q⟩:=ob; exact⟨a,vs,rfl,SqL.of hH,q⟩
   | _=>cases h
 | _=>cases h
theorem Qb4 {K:PySem.W.Frag} {μ:List Addr} {H:Hp} {g g':G} {μ':List Addr} {H':Hp} {d:D} {v:V} {b b':Bool} {ds ds':List D} (h:QE g d=some (b,ds)) (h':QE g' d=some (b',ds')):b=b':=by
 unfold QE at h h'
 cases d with
 | tup es=>cases h; cases h'; rfl
 | fl es=>cases h; cases h'; rfl
 | ref n =>
  dsimp only at h h'
  have k1:b=true:=by
   cases hg:g[n]? with
   | none=>rw [hg] at h; cases h
   | some o=>rw [hg] at h; cases o <;> cases h <;> rfl
  have k2:b'=true:=by
   cases hg:g'[n]? with
   | none=>rw [hg] at h'; cases h'
   | some o=>rw [hg] at h'; cases o <;> cases h' <;> rfl
  rw [k1,k2]
 | _=>cases h
theorem QiM {K:PySem.W.Frag} {μ:List Addr} {H:Hp} {g:G} {v1 v2:V} {d1 d2:D} {b1 b2:Bool} {xs ys:List D} {t:Nat} (q1:Den K μ H v1 d1) (q2:Den K μ H v2 d2) (h1:QE g d1=some (b1,xs)) (h2:QE g d2=some (b2,ys)) {a1 a2:Addr} (e1:v1=.ref a1) (e2:v2=.ref a2) :
  Sim K ca μ H ⟨fun g i=>(match QE g d1,QE g d2 with
  | some (_,xs),some (_,ys)=>(match xs[i]?,ys[i]? with
   | some x,some y=>some (some (.tup [x,y]))
   | _,_=>some none)
  | _,_=>none),t⟩ (Itz K b1 b2 a1 a2):=by
 intro i H1 μ1 g1 ex r
 dsimp only
 cases k1:QE g1 d1 with
 | none=>trivial
 | some p1 =>
  obtain⟨c1,xs1⟩:=p1
  cases k2:QE g1 d2 with
  | none=>trivial
  | some p2 =>
   obtain⟨c2,ys1⟩:=p2
   have f1:=Qb4 (K:=K) (μ:=μ) (H:=H) (μ':=μ) (H':=H) (v:=v1) h1 k1
   have f2:=Qb4 (K:=K) (μ:=μ) (H:=H) (μ':=μ) (H':=H) (v:=v1) h2 k2
   subst f1 f2
   obtain⟨z1,vs,w1,s1,d1s⟩:=Jv r (q1.mono ex) k1
   obtain⟨z2,ws,w2,s2,d2s⟩:=Jv r (q2.mono ex) k2
   rw [e1] at w1; cases w1
   rw [e2] at w2; cases w2
   dsimp only
   cases hx:xs1[i]? with
   | none =>
    refine⟨vs,ws,s1,s2,.inl ?_⟩
    rw [d1s.length]; exact List.getElem?_eq_none_iff.mp hx
   | some x =>
    cases hy:ys1[i]? with
    | none =>
     refine⟨vs,ws,s1,s2,.inr ?_⟩
     rw [d2s.length]; exact List.getElem?_eq_none_iff.mp hy
    | some y =>
     obtain⟨vx,hvx,qx⟩:=d1s.get hx
     obtain⟨vy,hvy,qy⟩:=d2s.get hy
     refine⟨⟨vs,ws,vx,vy,s1,s2,hvx,hvy⟩,fun v H' yl=>?_⟩
     obtain⟨pp,x',y',hp,rfl,rfl,u1,u2⟩:=yl
     have:=u1 vs s1
     rw [hvx] at this; cases this
     have:=u2 ws s2
     rw [hvy] at this; cases this
     exact⟨Q0 hp,r.new hp,.tup (.of Qu) (.cons (qx.mono (Q0 hp)) (.cons (qy.mono (Q0 hp)) .nil))⟩
theorem Qkn (hm:X.mg "zip" = none) (h1:PE3 ca X e1 m1) (h2:PE3 ca X e2 m2) (hg:Gl X "zip":=by rfl) (hs:starEach [e1,e2] X.env=[(false,eval e1 X.env),(false,eval e2 X.env)]:=by rfl) (hs2:starEach [e2] X.env=[(false,eval e2 X.env)]:=by rfl)
  (hs3:starEach [e1,e2] X.env=(false,eval e1 X.env)::starEach [e2] X.env:=by rfl):PI3 ca X (.Tuple elts kk tp) (.Call (.Name "zip" p) [e1,e2] [] pos) (QaC m1 m2) :=
 fun pn Φ=>Qdt (Qkm (X:=xat X ca pn Φ) hg hm (JG h1 (JG h2 Ql hs2) hs3 pn Φ) hs hs2) fun σ H R hQ=>by
  obtain⟨σ3,g,μ,Rp,q⟩:=hQ
  refine⟨σ3,g,μ,Rp,?_⟩
  unfold QaC at q
  unfold Qb mNil
  cases hm1:m1 σ3 g with
  | raise _ _=>rw [hm1] at q; exact q
  | stuck=>rw [hm1] at q; exact q.elim
  | ok d1 g1 =>
   rw [hm1,Res.bind_ok] at q
   rw [Res.bind_ok]
   cases hm2:m2 σ3 g1 with
   | raise _ _=>rw [hm2] at q; exact q
   | stuck=>rw [hm2] at q; exact q.elim
   | ok d2 g2 =>
    rw [hm2,Res.bind_ok] at q
    rw [Res.bind_ok,Res.bind_ok,Res.bind_ok]
    intro vs H1 μ1 ex r1 q1
    cases q1 with
    | @cons v1 _ _ _ n1 q1 =>
     cases q1 with
     | @cons v2 _ _ _ n2 q1 =>
      cases q1
      unfold Qb2 at q
      cases k1:QE g2 d1 with
      | none=>rw [k1] at q; exact q.elim
      | some p1 =>
       obtain⟨b1,xs⟩:=p1
       cases k2:QE g2 d2 with
       | none=>rw [k1,k2] at q; exact q.elim
       | some p2 =>
        obtain⟨b2,ys⟩:=p2
        rw [k1,k2] at q
        obtain⟨a1,us,rfl,s1,_⟩:=Jv r1 n1 k1
        obtain⟨a2,ts,rfl,s2,_⟩:=Jv r1 n2 k2
        exact⟨b1,b2,a1,a2,us,ts,rfl,s1,s2,q _ H1 μ1 ex r1 (QiM n1 n2 k1 k2 rfl rfl)⟩
end
end L3
end
section
namespace L3
open PySem PySem.Spec PyProof.Rows L2
theorem YB (K:PySem.W.Frag) (t c:Ty):PySem.W.kitOne K (.type t.name) (.type c.name)=some (tyLe t c):=by
 cases t <;> cases c <;> kernel_rfl
section
variable {X:Cx} {ca:Nat->Addr} {a b c e:Expr} {ma mb mc me:ME} {pos p p2:Pos} {k:Nat}
theorem Qf5 (c:Ty):CallR X (.builtin "isinstance") (fun xs H Q=>∃ x g μ d t,xs=[x,.ty c.name]∧GRep X.K ca μ H g∧Den X.K μ H x d∧tyOf g d=some t∧Q (.bl (tyLe t c)) H):=by
 intro pins s σ H xs us Q I rv h
 obtain⟨x,g,μ,d,t,rfl,r,q,ht,qq⟩:=h
 obtain⟨u,u2,rfl,ru,ru2⟩:=rv.two
 cases ru2
 have fin:∀ tk,EP X pins σ Q (.bool (tyLe t c)) { s with toks:=tk }:=fun tk=>⟨.bl _,H,I.tok tk,rfl,qq⟩
 cases q with
 | non=>cases ht; exact YI I ru .non (YB X.K .non c) fin
 | bl y=>cases ht; exact YI I ru (.bl y) (YB X.K .bool c) fin
 | int y=>cases ht; exact YI I ru (.int y) (YB X.K .int c) fin
 | str y=>cases ht; exact YI I ru (.str y) (YB X.K .str c) fin
 | @tup a vs ds hq hs =>
  cases ht
  cases ru
  obtain⟨its,_,⟨o,h1,h2,_⟩,_⟩:=I.tuple hq
  exact PySem.W.kia_one PySem.W.kitx_tuple I.kIn ⟨o,h1,h2⟩ (YB X.K .tuple c) (fun z=>nomatch z) fin
 | @fl a vs ds hq hs =>
  cases ht
  cases ru
  obtain⟨its,_,p,_⟩:=I.list hq.sq
  obtain⟨o,h1,h2,_⟩:=p.isList
  exact PySem.W.kia_one PySem.W.kitx_list I.kIn ⟨o,h1,h2⟩ (YB X.K .list c) (fun z=>nomatch z) fin
 | @ref n a hn =>
  unfold tyOf at ht
  dsimp only at ht
  cases hg:g[n]? with
  | none=>rw [hg] at ht; cases ht
  | some o =>
   rw [hg] at ht
   obtain⟨a',ha',ob⟩:=r.addr hg
   rw [hn] at ha'; cases ha'
   cases o with
   | lst ds=>cases ht; obtain⟨vs,hH,_⟩:=ob; exact YI I ru (.lst hH) (YB X.K .list c) fin
   | dct ks=>cases ht; obtain⟨kv,hH,_⟩:=ob; exact YI I ru (.dK hH) (YB X.K .dict c) fin
   | ins _ _=>cases ht
   | exc _=>cases ht
theorem Yk {x:Str} (c:Ty) (hi:X.mg "isinstance" = none) (hm:X.mg x=none) (hv:bootBuiltins x=some (.type c.name)) (he:PE3 ca X e me) (hgi:Gl X "isinstance":=by rfl) (hg:Gl X x:=by rfl) (hnm:x ≠ "__name__":=by decide) (hdb:(x == ("__debug__" : Str))=false:=by decide)
  (hs:starEach [e,.Name x p2] X.env=(false,eval e X.env)::starEach [.Name x p2] X.env:=by rfl) (hs2:starEach [.Name x p2] X.env=(false,eval (.Name x p2) X.env)::starEach [] X.env:=by rfl) (hpl:(backTo pos (starEach [.Name x p2] X.env)).any (·.1)=false:=by rfl) :
  PE3 ca X (.Call (.Name "isinstance" p) [e,.Name x p2] [] pos) (mOp1 (ZP c) me) :=
 fun pn Φ=>Zo (QaU (X:=xat X ca pn Φ) (Qf5 (ca:=ca) c) hgi hi boot_isinstance (JN (X:=xat X ca pn Φ) (he pn Φ) (JN (X:=xat X ca pn Φ) (Qdk (X:=xat X ca pn Φ) (v:=.ty c.name) hg hm hv rfl hnm hdb) QdX hs2) hs) (by decide) (by decide) hs hpl) fun σ H Q ⟨σ3,g,μ,R,q⟩ =>
  Za (JE R q) fun y H1 hQ=>by
   obtain⟨d,g1,μ1,e1,R1,q1,p1⟩:=hQ
   unfold ZP at p1
   cases ht:tyOf g1 d with
   | none=>rw [ht] at p1; exact p1.elim
   | some t=>rw [ht] at p1; exact⟨y,g1,μ1,d,t,rfl,R1.g,q1,ht,p1 _ H1 μ1 .refl R1.g (.bl _)⟩
theorem Qed {K:PySem.W.Frag} {μ:List Addr} {H:Hp}:∀ {vs:List V} {ds:List D} {us:List Value} {b:Bool},Dens K μ H vs ds->Vals vs us->allB ds=some b->∃ bs:List Bool,us=bs.map Value.bool∧bs.all id=b
 | _,_,_,b,.nil,.nil,h=>by cases h; exact⟨[],rfl,rfl⟩
 | _,_,_,b,@Dens.cons _ _ _ _ _ _ ds q qs,.cons r rs,h=>by
  cases q with
  | bl c =>
   unfold allB at h
   cases hd:allB ds with
   | none=>rw [hd] at h; cases h
   | some d =>
    rw [hd] at h
    cases h
    obtain⟨bs,h1,h2⟩:=Qed qs rs hd
    cases r
    exact⟨c::bs,by rw [h1]; rfl,by simp [h2]⟩
  | _=>cases h
theorem Qf6 (bs:List Bool):((List.range bs.length).all fun i=>(bs[i]?).getD true)=bs.all id:=by
 rw [Bool.eq_iff_iff,List.all_eq_true,List.all_eq_true]
 constructor
 ·intro h b hb
  obtain⟨i,hi,rfl⟩:=List.getElem_of_mem hb
  have:=h i (List.mem_range.mpr hi)
  simpa [hi] using this
 ·intro h i hi
  have hi':=List.mem_range.mp hi
  have:=h bs[i] (List.getElem_mem hi')
  simpa [hi'] using this
theorem Qf7 (hc:X.calm=true):CallR X (.builtin "all") (fun xs H Q=>∃ p vs ds μ b,xs=[.ref p]∧SqL X.K H p vs∧Dens X.K μ H vs ds∧allB ds=some b∧Q (.bl b) H):=by
 intro pins s σ H xs us Q I rv h
 obtain⟨l,vs,ds,μ,b,rfl,hq,q,hb,qq⟩:=h
 obtain⟨u,rfl,ru⟩:=rv.one
 cases ru
 obtain⟨its,rs,pl,_⟩:=I.list hq
 obtain⟨bs,rfl,e2⟩:=Qed q rs hb
 have hl:=pl.isList
 have hlt:l<s.heap.objs.size:=by obtain⟨_,e,_⟩:=hl; exact Heap.lt_size e
 refine call_all_walk (wpAny_pyIter_list hl ⟨s.heap.objs.size,[s.heap.objs.size,l],[s.heap.objs.size],_,_,_,fun i=>(bs[i]?).getD true,rfl,Walks.list (A:=X.A.in1) (show X.A.in1.handled=none from I.ok.hd hc) _ l (Nat.ne_of_lt hlt) _,⟨⟨_,Heap.get?_push_size _ rfl,rfl,rfl⟩,hl.push _⟩,fun i v s' Q' E' hP hQ=>?_,fun h' tk hk=>?_⟩)
 ·have hP:(bs.map Value.bool).toArray[i]?=some v:=hP
  rw [List.getElem?_toArray,List.getElem?_map] at hP
  cases hi:bs[i]? with
  | none=>rw [hi] at hP; cases hP
  | some c =>
   rw [hi] at hP
   cases hP
   simp only [hi,Option.getD_some] at hQ
   exact wpAny_truthy_bool hQ
 ·have kept:∀ c o,s.heap.get? c=some o->h'.get? c=some o:=fun c o e=>hk c o (fun hm=>by rw [List.mem_singleton.mp hm] at e; exact Nat.lt_irrefl _ (Heap.lt_size e)) (Heap.get?_push_of_some _ e)
  have ea:((List.range (bs.map Value.bool).toArray.size).all fun i=>(bs[i]?).getD true)=b:=by
   rw [List.size_toArray,List.length_map,Qf6,e2]
  rw [ea]
  exact⟨.bl b,H,I.kept kept,rfl,qq⟩
theorem QiN (hc:X.calm=true) (hm:X.mg "all" = none) (he:PE3 ca X e me) (hg:Gl X "all":=by rfl) (hs:starEach [e] X.env=[(false,eval e X.env)]:=by rfl) (hpl:(backTo pos (starEach [] X.env)).any (·.1)=false:=by rfl) :
  PE3 ca X (.Call (.Name "all" p) [e] [] pos) (mOp1 pAll me) :=
 QiJ (r:=fun xs H Q=>∃ p vs ds μ b,xs=[V.ref p]∧SqL X.K H p vs∧Dens X.K μ H vs ds∧allB ds=some b∧Q (.bl b) H) (fun pn Φ=>Qf7 (X:=xat X ca pn Φ) hc) hm boot_all (fun Φ σ H μ g y d Q r q pp=>by
  unfold pAll at pp
  cases q with
  | @ref n t hn =>
   dsimp only at pp
   cases hgn:g[n]? with
   | none=>rw [hgn] at pp; exact pp.elim
   | some ob =>
    rw [hgn] at pp
    obtain⟨t',ht',orp⟩:=r.addr hgn
    rw [hn] at ht'; cases ht'
    cases ob with
    | lst ds =>
     obtain⟨vs,hH,q⟩:=orp
     dsimp only at pp
     cases hb:allB ds with
     | none=>rw [hb] at pp; exact pp.elim
     | some b=>rw [hb] at pp; exact⟨t,vs,ds,μ,b,rfl,.of hH,q,hb,pp _ H μ .refl r (.bl _)⟩
    | _=>exact pp.elim
  | _=>exact pp.elim) he hg (by decide) (by decide) hs hpl
theorem Qhk {K:PySem.W.Frag} {Φ:XS} {r r':R2} {f f':D->D->G->Res D} (h1:Jc K ca r f) (h2:Jc K ca r' f') (σ:L2.St) (H:Hp) (Q:VK) (h:up K ca Φ (Qb1 f f' ma mb mc) σ H Q):QhN r r' (up K ca Φ ma) (up K ca Φ mb) (up K ca Φ mc) σ H Q:=by
 obtain⟨σ3,g,μ,R,p⟩:=h
 refine Za (JE R p) fun x H1 ⟨dx,g1,μ1,e1,R1,q1,p1⟩=>?_
 refine Za (JE R1 p1) fun y H2 ⟨dy,g2,μ2,e2,R2,q2,p2⟩=>?_
 refine h1 Φ σ H2 μ2 g2 x y dx dy _ R2.g (q1.mono e2) q2 ?_
 cases hf:f dx dy g2 with
 | raise _ _=>rw [hf] at p2; exact p2
 | stuck=>rw [hf] at p2; exact p2.elim
 | ok z g3 =>
  rw [hf,Res.bind_ok] at p2
  intro v H3 μ3 e3 r3 q3
  cases q3 with
  | bl t =>
   refine⟨t,rfl,?_⟩
   cases t with
   | true =>
    rw [if_pos rfl]
    dsimp only at p2
    refine Za (JE (R2.go e3 r3) (p2.go e3)) fun w' H4 ⟨dw,g4,μ4,e4,R4,q4,p4⟩=>?_
    exact h2 Φ σ H4 μ4 g4 y w' dy dw Q R4.g ((q2.mono e3).mono e4) q4 p4
   | false =>
    rw [if_neg Bool.false_ne_true]
    exact p2 _ H3 μ3 e3 r3 (.bl _)
  | _=>exact p2.elim
theorem Qko (ha:PE3 ca X a ma) (hb:PE3 ca X b mb) (hc:PE3 ca X c mc) (hm:lastMarks [.LtE,.Lt] [b,c]=false:=by with_unfolding_all rfl):PE3 ca X (.Compare a [.LtE,.Lt] [b,c] pos) (Qb1 pLe pLt ma mb mc) :=
 fun pn Φ=>Zo (Qg4 (X:=xat X ca pn Φ) Qlb QjN (ha pn Φ) (hb pn Φ) (hc pn Φ) hm) (Qhk (YY _) (YY _))
theorem QhW {K:PySem.W.Frag} {μ:List Addr} {H:Hp} {v:V} {d:D} (q:Den K μ H v d) (h:Qbe d=true):QbP v=true:=by cases q <;> first | rfl | cases h
theorem Qf8 {K:PySem.W.Frag} {μ:List Addr} {H:Hp}:∀ {vs:List V} {ds:List D},Dens K μ H vs ds->ds.all Qbe=true->vs.all QbP=true
 | _,_,.nil,_=>rfl
 | _,_,.cons q qs,h=>by
  rw [List.all_cons,Bool.and_eq_true] at h ⊢
  exact⟨QhW q h.1,Qf8 qs h.2⟩
theorem Qlm {K:PySem.W.Frag} {μ:List Addr} {H:Hp} {v w:V} {d e:D} (q:Den K μ H v d) (q':Den K μ H w e) (h:Qbe d=true) (h':Qbe e=true):eqV v w=eqF d e:=by
 cases q <;> cases q' <;> first | rfl | cases h | cases h'
theorem Qkp {K:PySem.W.Frag} {μ:List Addr} {H:Hp} {w:V} {e:D} (q':Den K μ H w e) (h':Qbe e=true):∀ {vs:List V} {ds:List D},Dens K μ H vs ds->ds.all Qbe=true->(vs.any fun y=>eqV y w)=ds.any fun d=>eqF d e
 | _,_,.nil,_=>rfl
 | _,_,.cons q qs,h=>by
  rw [List.all_cons,Bool.and_eq_true] at h
  rw [List.any_cons,List.any_cons,Qlm q q' h.1 h',Qkp q' h' qs h.2]
theorem QiO {K:PySem.W.Frag} (neg:Bool):Jc K ca (rIn K neg) (pIn neg):=by
 intro Φ σ H μ g x y dx dy Q r qx qy p
 unfold pIn at p
 cases hs:QE g dy with
 | none=>rw [hs] at p; exact p.elim
 | some pr =>
  obtain⟨bb,ds⟩:=pr
  rw [hs] at p
  dsimp only at p
  by_cases z:Qbe dx=true∧ds.all Qbe=true
  ·rw [if_pos z] at p
   obtain⟨a,vs,rfl,sq,qs⟩:=Jv r qy hs
   refine⟨a,vs,rfl,?_,QhW qx z.1,Qf8 qs z.2,p _ H μ .refl r ?_⟩
   ·cases bb
    ·exact .inr sq
    ·exact .inl sq
   ·unfold inV
    rw [Qkp qx z.1 qs z.2]
    cases neg <;> exact .bl _
  ·rw [if_neg z] at p; exact p.elim
theorem r_in (ha:PE3 ca X a ma) (hb:PE3 ca X b mb) (hm:behindInMarks .In b=false:=by rfl):PE3 ca X (.Compare a [.In] [b] pos) (mOp2 (pIn false) ma mb):=QfJ (fun _ _=>QfA) (QiO false) ha hb hm
end
end L3
end
section
namespace L3
open PySem PySem.Spec PyProof.Rows L2
section
variable {prog:Program} {w:World} {A:Around} {E:Value->Shared->Prop} {s:Shared}
theorem Qao {t sl:Addr} {items:Array Value} {vl vu:Value} {lo hi:Option Int} {Q:Value->Shared->Prop} (ht:IsTup s.heap t items) (hs:s.heap.IsSliceOf sl vl vu .none) (pl:IsPart vl lo) (pu:IsPart vu hi)
  (h1:HT.sIx items.size 0 lo=0) (h2:HT.sIx items.size items.size hi=items.size) (h:Q (.ref t) s):wpAny (model prog w) A (getItem (.ref t) (.ref sl)) Q E s:=by
 obtain⟨os,hos,hcs,hds⟩:=id hs
 have hTs:s.TypeIs (.ref sl) "slice":=⟨os,hos,hcs⟩
 unfold getItem
 try with_reducible refine wpAny_holding ?_
 first | refine wpAny_bind (wpAny_pure ?_) | skip
 refine wpAny_bind (wpAny_sequenceKey ht.typeIs (by decide) ?_)
 refine wpAny_bind (wpAny_callSpecial?_slot (name:=Str.ofString "__getitem__") ht.typeIs PyProof.Rows.slot_tuple_getitem (wpAny_call_entry PyProof.Rows.slot_tuple_getitem ht.typeIs entry_tuple_getitem ?_ (args_tuple_getitem _ _)))
 show wpAny _ _ (Builtin.Tuple.tupleItemsOf (.ref t) >>= _) _ _ s
 refine wpAny_bind (tupleItemsOf_ ht (wpAny_bind (wpAny_typeOf hTs ?_)))
 rw [if_pos (by decide)]
 refine wpAny_bind (HT.sliceApplied_gen hs pl pu ?_)
 rw [h1,h2]
 show wpAny _ _ (if (((0:Nat):Int) == 0 && (1:Int) == 1 && (items.size - 0) == items.size)=true then _ else _) _ _ s
 rw [if_pos (by simp)]
 unfold Builtin.Tuple.tupleIsExact
 refine wpAny_bind (wpAny_bind (wpAny_typeOf ht.typeIs (wpAny_pure ?_)))
 rw [if_pos (by decide)]
 exact wpAny_bind (wpAny_rule (wpAny_pure ⟨_,rfl,wpAny_pure h⟩))
end
theorem Qhl (n d:Nat) (o:Option Int):HT.sIx n d o=sIxD n d o:=by cases o <;> rfl
theorem Dens.cut {K:PySem.W.Frag} {μ:List Addr} {H:Hp} {vs:List V} {ds:List D} (lo hi:Option Int) (h:Dens K μ H vs ds):Dens K μ H (cutV vs lo hi) (cutD ds lo hi):=by
 unfold cutV cutD
 rw [Qhl,Qhl,h.length]
 exact(h.drop _).take _
section
variable {X:Cx} {ca:Nat->Addr} {e:Expr} {me:ME} {lo hi:Option Expr} {ml mh:MO} {pos p2:Pos}
theorem Qf9:SlR X (fun x lo hi H Q=>∃ a xs,x=.ref a∧SqT X.K H a xs∧(HT.sIx xs.length 0 lo=0∧HT.sIx xs.length xs.length hi=xs.length)∧Q (.ref a) H):=by
 intro pins s σ H x v vl vu lo hi sl Q I rx hs pl pu h
 obtain⟨a,xs,rfl,hx,hw,q⟩:=h
 cases rx
 obtain⟨its,r,ht,hz⟩:=I.tuple hx
 have hlen:its.toArray.size=xs.length:=by rw [List.size_toArray]; exact r.length.symm
 refine⟨"tuple",_,PyProof.Rows.slot_tuple_getitem.lookup,ht.typeIs,?_⟩
 exact Qao ht hs pl pu (by rw [hlen]; exact hw.1) (by rw [hlen]; exact hw.2) ⟨.ref a,H,I,rfl,q⟩
noncomputable def upO (K:PySem.W.Frag) (ca:Nat->Addr) (Φ:XS) (m:MO):TO:=fun σ H Q=>∃ σ3 g μ,Rep K ca μ σ3 g σ H∧match m σ3 g with
 | .ok o g'=>∀ H' μ',Ext K μ H μ' H'->GRep K ca μ' H' g'->Q o H'
 | .raise x g'=>RaP K ca Φ σ H μ x g'
 | .stuck=>False
noncomputable def PO3 (ca:Nat->Addr) (X:Cx) (e:Option Expr) (m:MO):Prop:=∀ pn Φ,PO (xat X ca pn Φ) e (upO X.K ca Φ m)
theorem Jw:PO3 ca X none ZG:=fun pn Φ pins s σ H Q I ⟨_,_,μ,R,p⟩=>Qiw (X:=xat X ca pn Φ) pins s σ H Q I (p H μ .refl R.g)
theorem Qb5 (he:PE3 ca X e me):PO3 ca X (some e) (JD me):=fun pn Φ pins s σ H Q I hQ=>by
 obtain⟨σ3,g,μ,R,p⟩:=hQ
 refine Qix (X:=xat X ca pn Φ) (he pn Φ) pins s σ H Q I ⟨σ3,g,μ,R,?_⟩
 unfold JD at p
 cases hm:me σ3 g with
 | raise _ _=>rw [hm] at p; exact p
 | stuck=>rw [hm] at p; exact p
 | ok d g1 =>
  rw [hm,Res.bind_ok] at p
  intro v H1 μ1 e1 r1 q1
  cases q1 with
  | int i=>exact⟨i,rfl,p H1 μ1 e1 r1⟩
  | _=>exact p.elim
theorem QiP {α:Type} (xs:List α) (lo hi:Option Int) (h1:sIxD xs.length 0 lo=0) (h2:sIxD xs.length xs.length hi=xs.length):cutD xs lo hi=xs:=by
 unfold cutD
 rw [h1,h2]; simp
theorem Qap (he:PE3 ca X e me) (hl:PO3 ca X lo ml) (hh:PO3 ca X hi mh):PE3 ca X (.Subscript e (.Slice lo hi none p2) pos) (Yg me ml mh):=fun pn Φ =>
 Zo (Qg8 (X:=xat X ca pn Φ) ((sl_tup.or Qf9).or Qiz) (he pn Φ) (hl pn Φ) (hh pn Φ)) fun σ H Q ⟨σ3,g,μ,R,p⟩=>Za (JE R p) fun x H1 hQ=>by
  obtain⟨d,g1,μ1,e1,R1,q1,p1⟩:=hQ
  refine⟨σ3,g1,μ1,R1,?_⟩
  cases hm:ml σ3 g1 with
  | raise _ _=>rw [hm] at p1; exact p1
  | stuck=>rw [hm] at p1; exact p1
  | ok l g2 =>
   rw [hm,Res.bind_ok] at p1
   intro H2 μ2 e2 r2
   refine⟨σ3,g2,μ2,R1.go e2 r2,?_⟩
   cases hm2:mh σ3 g2 with
   | raise _ _=>rw [hm2] at p1; exact RaP.go e2 p1
   | stuck=>rw [hm2] at p1; exact p1
   | ok u g3 =>
    rw [hm2,Res.bind_ok] at p1
    intro H3 μ3 e3 r3
    have p3:=Post.go (e2.trans e3) p1
    have q3:=(q1.mono e2).mono e3
    unfold J5 at p3
    cases q3 with
    | @tup a vs ds ht hs =>
     by_cases hw:HT.sIx vs.length 0 l=0∧HT.sIx vs.length vs.length u=vs.length
     ·refine .inl (.inr ⟨a,vs,rfl,ht,hw,p3 _ H3 μ3 .refl r3 ?_⟩)
      rw [QiP ds l u (by rw [← Qhl,← hs.length]; exact hw.1) (by rw [← Qhl,← hs.length]; exact hw.2)]
      exact .tup ht hs
     ·exact .inl (.inl ⟨a,vs,rfl,ht,hw,fun t ht'=>p3 _ _ μ3 (Q0 ht') (r3.new ht') (.tup (.of Qu) ((hs.cut l u).mono (Q0 ht')))⟩)
    | @fl a vs ds ht hs =>
     refine .inr ⟨a,vs,rfl,ht.sq,fun t ht'=>p3 _ _ (μ3++[t]) (QB ht') (r3.push ht' ⟨_,Qu,(hs.cut l u).mono (QB ht')⟩) (.ref ?_)⟩
     rw [← r3.len]; simp
    | @ref n a hn =>
     dsimp only at p3
     cases hg:g3[n]? with
     | none=>rw [hg] at p3; exact p3.elim
     | some o =>
      rw [hg] at p3
      obtain⟨a',ha',ob⟩:=r3.addr hg
      rw [hn] at ha'; cases ha'
      cases o with
      | lst ds =>
       obtain⟨vs,hH,hs⟩:=ob
       refine .inr ⟨a,vs,rfl,.of hH,fun t ht'=>p3 _ _ (μ3++[t]) (QB ht') (r3.push ht' ⟨_,Qu,(hs.cut l u).mono (QB ht')⟩) (.ref ?_)⟩
       rw [← r3.len]; simp
      | _=>exact p3.elim
    | _=>exact p3.elim
end
end L3
end
section
namespace L3
open PySem PySem.Spec PyProof.Rows L2
abbrev bmV:List Value:=[.type "ValueError",.type "Exception",.type "BaseException",.type "object"]
section
variable {prog:Program} {w:World} {A:Around} {E:Value->Shared->Prop} {s:Shared} {K:PySem.W.Frag} {C e:Addr} {oe:Obj} {vs:Array Value}
end
section
variable {X:Cx} {ca:Nat->Addr} {e:Expr} {me:ME} {pos p p2:Pos} {all cs:List Nat}
end
section
variable {K:PySem.W.Frag} {C:Addr} {x:Str} {mg:Str->Option Value} {h:Heap}
theorem QiQ (X:K.In h) (e:mg x=some (.ref C)) (q:PySem.W.excIn K C bmV "ValueError.__new__" = true):OwnCls x C bmV "ValueError.__new__" mg h:=by
 refine⟨e,?_⟩
 unfold PySem.W.excIn at q
 split at q
 ·rename_i dd cd sl ho
  split at q
  ·rename_i C' bm k0 k1 k2 k3 n k5 hm hs
   simp only [Bool.and_eq_true,beq_iff_eq,Bool.not_eq_true'] at q
   obtain⟨⟨⟨⟨⟨rfl,rfl⟩,hdel⟩,ht⟩,hok⟩,hni⟩:=q
   obtain⟨nm,bs,mro,ns,qn,hd,sn,sub,ab,col,del⟩:=cd
   dsimp only at hm hdel hok hni
   subst hm hdel
   have hsl:sl = #[k0,k1,k2,k3,some (.builtin "ValueError.__new__"),k5]:=by
    obtain⟨l⟩:=sl
    simp only at hs
    rw [hs]
   subst hsl
   exact⟨bm,ns,nm,qn,bs,hd,sn,sub,ab,col,dd,k0,k1,k2,k3,k5,_,X _ _ ho,.of_isNs (PySem.W.isNs_of_in X hok),PySem.W.nsMap_none_of_in X hok hni,PySem.W.tail_of_in X ht⟩
  ·cases q
 ·cases q
end
theorem Inv.there' {X:Cx} {pins:List (Addr×Obj)} {σ:L2.St} {H:Hp} {s:Shared} {a:Addr} {o:HO} (I:Inv X pins σ H s) (h:H a=some o):∃ u,s.heap.get? a=some u:=by
 have:=I.hok a o h
 cases o with
 | lst xs=>obtain⟨_,_,_,_,e⟩:=this; exact⟨_,e⟩
 | tup xs=>obtain⟨_,_,_,u,e,_⟩:=this; exact⟨u,e⟩
 | dK kvs=>obtain⟨_,_,_,_,u,_,_,e,_⟩:=this; exact⟨u,e⟩
 | dT kvs=>obtain⟨_,_,_,_,u,_,_,e,_⟩:=this; exact⟨u,e⟩
 | set S n=>obtain⟨u,_,_,_,e,_⟩:=this; exact⟨u,e⟩
 | ins C dx fs=>obtain⟨_,_,_,e,_⟩:=this; exact⟨_,e⟩
 | own y=>exact this
 | xd fs=>obtain⟨_,⟨_,_,_,e,_⟩,_⟩:=this; exact⟨_,e⟩
 | met f x=>exact⟨_,this⟩
 | rng lo hi=>obtain⟨_,_,_,e⟩:=this; exact⟨_,e⟩
 | frz u v=>exact⟨_,this.1⟩
 | tbl ps=>exact⟨_,this⟩
 | ext φ=>exact this.2.1
structure RaH (K:PySem.W.Frag) (mg:Str->Option Value) (ca:Nat->Addr) (c:Nat) (x:Str):Prop where
 at':mg x=some (.ref (ca c))
 ex:PySem.W.excIn K (ca c) bmV "ValueError.__new__" = true
section
variable {X:Cx} {ca:Nat->Addr} {e:Expr} {es:List Expr} {mr:MA} {np cpos pos:Pos} {c:Nat} {x:Str}
theorem QiR (h:RaH X.K X.mg ca c x) (hh:X.A.handled=none) (ha:PA3 ca X (e::es) mr) (hg:Gl X x:=by rfl) (hdb:(x == ("__debug__" : Str))=false:=by decide)
  (he:starEach (e::es) X.env=(false,eval e X.env)::starEach es X.env:=by rfl) (hpl:(backTo cpos (starEach es X.env)).any (·.1)=false:=by rfl):PS3 ca X (.Raise (some (.Call (.Name x np) (e::es) [] cpos)) none pos) (QdZ c mr):=by
 intro pn Φ pins s σ H En I ⟨σ3,g,μ,R,p⟩
 obtain⟨bm,N,nm,q,bs,hdct,sn,sub,ab,col,dd,k0,k1,k2,k3,k5,mN,hC,hN,hni,T⟩:=(QiQ (h:=X.base) I.ok.mod.kin h.at' h.ex).obj
 refine wpAny_Raise_call_subT (C:=ca c) (nm:=nm) (q:=q) (N:=N) (bs:=bs) (bm:=bm) (hdct:=hdct) (sn:=sn) (sub:=sub) (ab:=ab) (col:=col) (dd:=dd) (k0:=k0) (k1:=k1) (k2:=k2) (k3:=k3) (k5:=k5)
  PySem.F.excBase_ValueError (mN:=mN) (T.hasType PySem.F.excBase_ValueError.hasBase) hh ?_ hni (Qa5 I hg h.at' ⟨rfl,?_⟩ hdb)
 ·show(backTo cpos (starEach (e::es) X.env)).any (·.1)=false
  rw [he]
  show(false || (backTo cpos (starEach es X.env)).any (·.1))=false
  rw [hpl]; rfl
 ·have z:upA X.K ca Φ mr σ H fun vs H1=>vs.length≤sizeLine∧Φ (c,none) σ H1:=by
   refine⟨σ3,g,μ,R,?_⟩
   unfold QdZ at p
   cases hm:mr σ3 g with
   | raise _ _=>rw [hm] at p; exact RaP.stmt R p
   | stuck=>rw [hm] at p; exact p
   | ok ds g1 =>
    rw [hm] at p
    dsimp only at p
    intro vs H1 μ1 e1 r1 q1
    by_cases hz:ds.length≤SZ
    ·rw [if_pos hz] at p
     exact⟨q1.sz hz,p σ H1 μ1 e1 (R.go e1 r1)⟩
    ·rw [if_neg hz] at p; exact p.elim
  have az:=ha pn Φ cpos pins s σ H _ I z
  have he':starEach (e::es) (xat X ca pn Φ).env=(false,eval e X.env)::starEach es X.env:=he
  show wpAny _ _ (evalArgs (.ref (ca c)) true (backTo cpos (starEach (e::es) X.env)) []) _ _ s
  rw [he'] at az
  rw [he]
  refine Calls.evalArgs_plain (wpAny_mono az (fun us s2 ⟨vs,H1,I1,r1,hz,hΦ⟩=>⟨rfl,by rw [← r1.length]; exact hz,I1.bk _ _ hC,hN.keeps I1.bk,T.keeps I1.bk,fun h' ea hm=>?_⟩) fun _ _ y=>y)
  have I2:Inv (xon X pn) [] σ H1 s2:=(QhS I1).pins_of fun p hp=>absurd hp (by simp)
  have I3:Inv (xon X pn) [] σ H1 { s2 with heap:=h' }:=I2.kept (t':=s2.toks) hm.keeps
  have hn:H1 ea=none:=by
   cases hq:H1 ea with
   | none=>rfl
   | some o =>
    obtain⟨o',ho'⟩:=Inv.there' I2 hq
    rw [hm.new] at ho'; cases ho'
  obtain⟨t,ht,_⟩:=hm.there
  exact⟨ea,(c,none),σ,H1,rfl,I3,⟨Qd4 I2 hm.new hn,rfl,_,_,ht,⟨rfl,rfl⟩,rfl,by simp,.inl rfl⟩,hΦ⟩
end
end L3
end
section
namespace L3
open PySem PySem.Spec PyProof.Rows L2
structure CatX (K:PySem.W.Frag) (ca:Nat->Addr) (C:Addr) (cs no:List Nat):Prop where
 ci:(PySem.W.clsIn K C).isSome=true
 ty:PySem.W.typeIn K (.ref C)=some (.type "type")
 sb:PySem.W.subIn K (.ref C) (.type "BaseException")=some true
 yes:∀ c∈cs,PySem.W.subIn K (.ref (ca c)) (.ref C)=some true
 no':∀ c∈no,PySem.W.subIn K (.ref (ca c)) (.ref C)=some false
section
variable {prog:Program} {w:World} {A:Around} {E:Value->Shared->Prop} {s:Shared} {K:PySem.W.Frag} {ca:Nat->Addr} {C D e:Addr} {oe:Obj} {cs no:List Nat} {b:Bool}
theorem Qga {Q:Bool->Shared->Prop} (X:K.In s.heap) (F:CatX K ca C cs no) (hx:s.heap.get? e=some oe) (hc:oe.cls=.ref D) (hs:PySem.W.subIn K (.ref D) (.ref C)=some b) (h:Q b s):wpAny (model prog w) A (excMatches (.ref e) (.ref C)) Q E s:=by
 obtain⟨hh,g,d,t,os⟩:=s
 have L0:=PySem.W.looks_typeIn (M:=model prog w) X F.ty
 have L1:=PySem.W.looks_subIn (M:=model prog w) X F.sb
 have L2:=PySem.W.looks_subIn (M:=model prog w) X hs
 have L3:PySem.W.Looks (model prog w) hh (isType (.ref C)) true:=by
  obtain⟨cd,hc⟩:=Option.isSome_iff_exists.mp F.ci
  unfold PySem.W.clsIn at hc
  split at hc
  ·rename_i c' d' cd' sl' ho
   intro A' Q' E' s' k q
   unfold isType loadHead
   exact wpAny_bind (wpAny_loadPart (k _ _ (X _ _ ho)) (wpAny_pure q))
  ·cases hc
 have f:=tc_notTuple
 unfold excMatches isInstance
 refine wpAny_bind (wpAny_bind (L0.at (wpAny_of_eq f ?_)))
 simp only [Bool.false_eq_true,if_false]
 refine wpAny_bind (wpAny_pure ?_)
 simp only [List.forIn_cons,List.forIn_nil]
 unfold isExcClass
 refine wpAny_bind (wpAny_bind (wpAny_bind (wpAny_bind (L3.at ?_))))
 rw [if_pos rfl]
 refine L1.at ?_
 simp only [Bool.not_true,Bool.false_eq_true,if_false]
 refine wpAny_pure (wpAny_pure ?_)
 have L4:PySem.W.Looks (model prog w) hh (typeOf (.ref e)) (.ref D):=hc ▸ (PySem.W.Looks.ld hx).andThen .now
 refine wpAny_bind (L4.at (wpAny_bind (wpAny_bind (wpAny_bind (L2.at ?_)))))
 cases b with
 | true=>rw [if_pos rfl]; exact wpAny_pure (wpAny_pure (wpAny_pure h))
 | false=>rw [if_neg Bool.false_ne_true]; exact wpAny_pure (wpAny_pure (wpAny_pure h))
end
noncomputable abbrev xmk (X:Cx) (v:Value):Cx:={ X with A:=X.A.mark (some v),calm:=false }
section
variable {X:Cx} {ca:Nat->Addr} {pins:List (Addr×Obj)} {σ:L2.St} {H:Hp} {s:Shared} {a:Addr} {x:Xc}
theorem QhX (v:Value) (I:Inv X pins σ H s):Inv (xmk X v) pins σ H s :=
 ⟨⟨I.ok.mod,I.ok.kind,I.ok.glob,I.ok.blt,I.ok.above,I.ok.inj,I.ok.has,I.ok.cab,(fun z=>by cases z),I.ok.frames,I.ok.stk,I.ok.exf,I.ok.bs,I.ok.bsz,I.ok.noex,I.ok.exfs,I.ok.funs,I.ok.frf⟩,I.os,I.bare,I.base,I.loc,I.cell,I.free,I.freeC,I.pin,I.hok,I.len⟩
theorem Qee {v:Value} (h:X.calm=true->X.A.handled=none) (I:Inv (xmk X v) pins σ H s):Inv X pins σ H s :=
 ⟨⟨I.ok.mod,I.ok.kind,I.ok.glob,I.ok.blt,I.ok.above,I.ok.inj,I.ok.has,I.ok.cab,h,I.ok.frames,I.ok.stk,I.ok.exf,I.ok.bs,I.ok.bsz,I.ok.noex,I.ok.exfs,I.ok.funs,I.ok.frf⟩,I.os,I.bare,I.base,I.loc,I.cell,I.free,I.freeC,I.pin,I.hok,I.len⟩
end
end L3
end
section
namespace L3
open PySem PySem.Spec PyProof.Rows L2
section
variable {X:Cx} {ca:Nat->Addr} {body suite:List Stmt} {b0:Stmt} {mb mc:MS} {np hpos pos:Pos} {C:Addr} {cs no:List Nat} {T n:Str}
theorem Qkq {Y:Cx} {pn pins:List (Addr×Obj)} {E E':Value->Shared->Prop} {σ:L2.St} {H:Hp} {s:Shared} (I:Inv { Y with pn:=pn,xe:=E } pins σ H s):Inv { Y with pn:=pn++pins,xe:=E' } [] σ H s :=
 ⟨⟨I.ok.mod,I.ok.kind,I.ok.glob,I.ok.blt,I.ok.above,I.ok.inj,I.ok.has,I.ok.cab,I.ok.hd,I.ok.frames,I.ok.stk,I.ok.exf,I.ok.bs,I.ok.bsz,I.ok.noex,I.ok.exfs,I.ok.funs,I.ok.frf⟩,I.os,I.bare,I.base,I.loc,I.cell,I.free,I.freeC,fun p hp=>I.pin p (by rw [List.append_nil] at hp; exact hp),I.hok,I.len⟩
theorem Qbk {Y:Cx} {pn pins:List (Addr×Obj)} {E E':Value->Shared->Prop} {σ:L2.St} {H:Hp} {s:Shared} (I:Inv { Y with pn:=pn++pins,xe:=E } [] σ H s):Inv { Y with pn:=pn,xe:=E' } pins σ H s :=
 ⟨⟨I.ok.mod,I.ok.kind,I.ok.glob,I.ok.blt,I.ok.above,I.ok.inj,I.ok.has,I.ok.cab,I.ok.hd,I.ok.frames,I.ok.stk,I.ok.exf,I.ok.bs,I.ok.bsz,I.ok.noex,I.ok.exfs,I.ok.funs,I.ok.frf⟩,I.os,I.bare,I.base,I.loc,I.cell,I.free,I.freeC,fun p hp=>I.pin p (by rw [List.append_nil]; exact hp),I.hok,I.len⟩
theorem Qgb {pn:List (Addr×Obj)} {σ:L2.St} {H:Hp} {s:Shared} {a:Addr} {x:Xc} {oe:Obj} {R:Result->Shared->Prop} {b:Bool} (I:Inv (xon X pn) [] σ H s) (hT:X.mg T=some (.ref C)) (F:CatX X.K ca C cs no) (he:s.heap.get? a=some oe) (ho:XOb ca x oe)
  (hs:PySem.W.subIn X.K (.ref (ca x.1)) (.ref C)=some b) (hg:Gl X T) (hdb:(T == ("__debug__" : Str))=false) (h:R (.ok (if b then .brk else .next)) s) :
  codeAny (model X.prog X.w) (X.A.mark (some (.ref a))) (.handlers (.ref a) [.ExceptHandler (some (.Name T np)) none [] hpos] X.env) R s :=
 codeAny_handlers_test (Qa5 (X:=xmk (xon X pn) (.ref a)) (QhX _ I) hg hT (Qga I.kIn F he ho.1 hs h) hdb)
theorem QiS {pn pins:List (Addr×Obj)} {Φ:XS} {σ:L2.St} {H:Hp} {s:Shared} {a:Addr} {x:Xc} {Q:Flow->Shared->Prop} (hf:X.env.frame=some X.env.locals) (I:Inv (xon X (pn++pins)) [] σ H s) (fl:FlT (xon X (pn++pins)) ca a x H s.heap) (h:Φ x σ H) :
  wpAny (model X.prog X.w) X.A (handleBy (.ref a) X.env []) Q (xat X ca pn Φ).xe s:=by
 refine wpAny_handleBy_nil ?_
 unfold PySem.passOn
 obtain⟨fp,ln,oe,vs,T,oT,ts,he,hc,hd,hv,hTa,fT,hT,hdT,hs3⟩:=id fl
 refine wpAny_bind (wpAny_field he hd hv ?_)
 rw [if_neg (show ¬ ((Value.ref T == Value.none)=true) from by simp)]
 refine wpAny_bind (Jh (fo:=X.env.frame) I fl fun h2 T oT ts oe vs I2 a1 a2 a3 a4 a5 a6 a7 a8 a9 a10=>wpAny_throw ?_)
 rw [hf] at a10
 have dn:∀ {b:Addr},FpW (xon X (pn++pins)) [] H b->FpW (xon X pn) [] H b:=fun z=>⟨z.1,z.2.1,z.2.2.1,z.2.2.2.1,z.2.2.2.2.1,fun p hp=>z.2.2.2.2.2 p (by rw [List.append_nil] at hp ⊢; exact List.mem_append_left _ hp)⟩
 exact⟨a,x,σ,H,rfl,(Qbk (Y:=X) I2).pins_of fun p hp=>absurd hp (by simp),FlN.fl ⟨dn fp,ln,oe,vs,T,oT,ts,a1,a2,a3,a4,a5,dn a6,a7,a8,a10⟩,h⟩
theorem Qhm {hs:List MH} {h0:ExceptHandler} {hr:List ExceptHandler} (hb:PSs3 ca X body mb) (hk:X.stack=X.env::X.outer) (hf:X.env.frame=some X.env.locals)
  (hh:∀(pn pins:List (Addr×Obj)) (Φ:XS) (En:Ends) (σ:L2.St) (H:Hp) (s:Shared) (a:Addr) (x:Xc) (σ3:S3) (g:G) (μ:List Addr),(X.calm=true->X.A.handled=none)->Inv (xon X (pn++pins)) [] σ H s->FlT (xon X (pn++pins)) ca a x H s.heap->Rep X.K ca μ σ3 g σ H->PostS X.K ca Φ En H μ (runH hs x σ3 g) ->
   wpAny (model X.prog X.w) X.A (handleBy (.ref a) X.env (h0::hr)) (SP (xat X ca pn Φ) pins En) (xat X ca pn Φ).xe s):PS3 ca X (.Try body (h0::hr) [] [] pos) (mTry mb hs):=by
 intro pn Φ pins s σ H En I ⟨σ3,g,μ,R,p⟩
 refine wpAny_Try_except ?_
 have p1:PostS X.K ca (fun x σ' H'=>∃ σ4 g4 μ4,Rep X.K ca μ4 σ4 g4 σ' H'∧PostS X.K ca Φ En H' μ4 (runH hs x σ4 g4)) En H μ (mb σ3 g):=by
  unfold mTry at p
  cases hm:mb σ3 g with
  | nx _ _=>rw [hm] at p; exact p
  | rt _ _=>rw [hm] at p; exact p
  | bk _ _=>rw [hm] at p; exact p
  | ct _ _=>rw [hm] at p; exact p
  | raise x σ' g'=>rw [hm] at p; exact fun σ4 H' μ' e R'=>⟨σ',g',μ',R',PostS.go e p⟩
  | stuck=>rw [hm] at p; exact p
 refine wpAny_mono (hb (pn++pins) _ [] s σ H En (Qkq (Y:=X) I) ⟨σ3,g,μ,R,p1⟩) (fun f s1 h1=>?_) fun v s1 h1=>?_
 ·cases f with
  | next=>obtain⟨σ',H',J,q⟩:=h1; exact Qfm (X:=xat X ca pn Φ) pins s1 σ' H' En (Qbk (Y:=X) J) q
  | brk=>obtain⟨σ',H',J,q⟩:=h1; exact⟨σ',H',Qbk (Y:=X) J,q⟩
  | cont=>obtain⟨σ',H',J,q⟩:=h1; exact⟨σ',H',Qbk (Y:=X) J,q⟩
  | ret u=>obtain⟨v,σ',H',J,r,q⟩:=h1; exact⟨v,σ',H',Qbk (Y:=X) J,r,q⟩
 ·obtain⟨a,x,σ',H',rfl,I1,fl,σ4,g4,μ4,R4,p4⟩:=h1
  refine Qdr (X:=xon X (pn++pins)) I1 hk hf fl fun h2 I2 f2=>?_
  refine Jh (X:=xon X (pn++pins)) (fo:=none) I2 f2.t fun h3 T oT ts oe vs I3 a1 a2 a3 a4 a5 a6 a7 a8 a9 a10=>?_
  exact hh pn pins Φ En σ' H' _ a x σ4 g4 μ4 I.ok.hd I3 ⟨f2.1,f2.2.1,oe,vs,T,oT,ts,a1,a2,a3,a4,a5,a6,a7,a8,a9⟩ R4 p4
theorem Qkr (hT:X.mg T=some (.ref C)∧CatX X.K ca C cs no) (hb:PSs3 ca X body mb) (hc:∀ a,PSs3 ca (xmk X (.ref a)) (b0::suite) mc)
  (hg:Gl X T:=by rfl) (hdb:(T == ("__debug__" : Str))=false:=by decide) (hk:X.stack=X.env::X.outer:=by rfl) (hf:X.env.frame=some X.env.locals:=by rfl) :
  PS3 ca X (.Try body [.ExceptHandler (some (.Name T np)) none (b0::suite) hpos] [] [] pos) (mTry mb [⟨cs,no,none,mc⟩]):=by
 refine Qhm hb hk hf fun pn pins Φ En σ H s a x σ3 g μ hcalm I fl R p=>?_
 obtain⟨fp,ln,oe,vs,Tb,oT,ts,he,hox,hd,hv,hTa,fT,hTT,hdT,hs3⟩:=id fl
 unfold runH at p
 by_cases hx:x.1∈cs
 ·rw [if_pos hx] at p
  dsimp only at p
  refine wpAny_handleBy_cons (Qgb I hT.1 hT.2 he hox (hT.2.yes _ hx) hg hdb ?_) (by intro q; cases q)
  refine codeAny_handlers_suite ?_
  refine Jh (fo:=none) I fl fun h2 T2 oT2 ts2 oe2 vs2 I2 b1 b2 b3 b4 b5 b6 b7 b8 b9 b10=>?_
  have hcc:=hc a (pn++pins) F0 [] { s with heap:=h2 } σ H { nx:=En.nx,rt:=En.rt } (Inv.wish (QhX (.ref a) I2) _) ⟨_,_,_,R,by
   cases hm:mc σ3 g with
   | nx σ5 g5=>rw [hm] at p; exact p
   | rt d g5=>rw [hm] at p; exact p
   | bk _ _=>rw [hm] at p; exact p.elim
   | ct _ _=>rw [hm] at p; exact p.elim
   | raise _ _ _=>rw [hm] at p; exact p.elim
   | stuck=>rw [hm] at p; exact p.elim⟩
  refine wpAny_mono (noX hcc) (fun f s5 h5=>?_) fun _ _ z=>z.elim
  cases f with
  | next =>
   obtain⟨σ',H',J,q⟩:=h5
   exact⟨σ',H',Qbk (Y:=X) (Qee (X:=xon X (pn++pins)) (v:=.ref a) hcalm (Inv.wish J _)),q⟩
  | ret u =>
   obtain⟨v,σ',H',J,r,q⟩:=h5
   exact⟨v,σ',H',Qbk (Y:=X) (Qee (X:=xon X (pn++pins)) (v:=.ref a) hcalm (Inv.wish J _)),r,q⟩
  | brk=>obtain⟨_,_,_,q⟩:=h5; exact q.elim
  | cont=>obtain⟨_,_,_,q⟩:=h5; exact q.elim
 ·rw [if_neg hx] at p
  by_cases hn:x.1∈no
  ·rw [if_pos hn] at p
   refine wpAny_handleBy_cons (Qgb I hT.1 hT.2 he hox (hT.2.no' _ hn) hg hdb ?_) (by intro q; cases q)
   exact QiS hf I fl (p σ H μ .refl R)
  ·rw [if_neg hn] at p; exact p.elim
end
end L3
end
section
namespace L3
open PySem PySem.Spec PyProof.Rows L2
noncomputable def bchk (sc scope:Scope) (N Nb:List Str) (no:Nat) (cap:List Nat):Bool :=
 decide (scope.kind=.function) && scope.names.all (fun y=>decide (y.2≠.cell)) && scope.names.all (fun y=>decide (y.2≠.local) || decide (scope.names.lookup y.1=some .local)) &&
 scope.names.all (fun y=>decide (y.2≠.free) || decide (sc.names.lookup y.1=some .cell) || decide (sc.names.lookup y.1=some .free)) && decide (Nb.length=no+cap.length) &&
 (List.range cap.length).all fun j=>match cap[j]?,Nb[no+j]? with
  | some i,some x=>decide (N[i]?=some x) && decide (scope.names.lookup x=some .free) && (decide (sc.names.lookup x=some .cell) || decide (sc.names.lookup x=some .free))
  | _,_=>false
theorem Jj {X:Cx} {scope sc:Scope} {N Nb:List Str} {no:Nat} {cap:List Nat} (hsc:X.env.scope=sc) (hN:X.N=N) (h:bchk sc scope N Nb no cap=true):BScope X scope Nb no cap:=by
 subst hsc hN
 unfold bchk at h
 simp only [Bool.and_eq_true,decide_eq_true_eq] at h
 obtain⟨⟨⟨⟨⟨h1,h2⟩,h3⟩,h4⟩,h5⟩,h6⟩:=h
 rw [List.all_eq_true] at h2 h3 h4 h6
 refine⟨h1,fun y hy=>of_decide_eq_true (h2 y hy),fun y hy e=>?_,fun y hy e=>?_,h5,fun j i hj=>?_⟩
 ·rcases Bool.or_eq_true_iff.mp (h3 y hy) with z | z
  ·exact absurd e (of_decide_eq_true z)
  ·exact of_decide_eq_true z
 ·rcases Bool.or_eq_true_iff.mp (h4 y hy) with z | z
  ·rcases Bool.or_eq_true_iff.mp z with z | z
   ·exact absurd e (of_decide_eq_true z)
   ·exact .inl (of_decide_eq_true z)
  ·exact .inr (of_decide_eq_true z)
 ·have hl:j<cap.length:=(List.getElem?_eq_some_iff.mp hj).1
  have z:=h6 j (List.mem_range.mpr hl)
  rw [hj] at z
  cases hx:Nb[no+j]? with
  | none=>rw [hx] at z; cases z
  | some x =>
   rw [hx] at z
   simp only [Bool.and_eq_true,Bool.or_eq_true,decide_eq_true_eq] at z
   obtain⟨⟨z1,z2⟩,z3⟩:=z
   refine⟨x,rfl,z1,z2,.inr z3,fun q=>?_⟩
   have q:X.env.scope.names.lookup x=some .local:=q
   rcases z3 with z | z
   ·rw [z] at q; cases q
   ·rw [z] at q; cases q
noncomputable def catB (K:PySem.W.Frag) (ca:Nat->Addr) (C:Addr) (cs no:List Nat):Bool:=(PySem.W.clsIn K C).isSome && (PySem.W.typeIn K (.ref C) == some (.type "type")) && (PySem.W.subIn K (.ref C) (.type "BaseException") == some true) &&
 cs.all (fun c=>PySem.W.subIn K (.ref (ca c)) (.ref C) == some true) && no.all fun c=>PySem.W.subIn K (.ref (ca c)) (.ref C) == some false
theorem Qks {K:PySem.W.Frag} {ca:Nat->Addr} {C:Addr} {cs no:List Nat} (h:catB K ca C cs no=true):CatX K ca C cs no:=by
 unfold catB at h
 simp only [Bool.and_eq_true,beq_iff_eq,List.all_eq_true] at h
 obtain⟨⟨⟨⟨h1,h2⟩,h3⟩,h4⟩,h5⟩:=h
 exact⟨h1,h2,h3,h4,h5⟩
noncomputable def clsB (K:PySem.W.Frag) (C:Addr):Bool:=PySem.W.plainGet K C Str.empty && PySem.W.hasDictIn K C && PySem.W.plainOver K C && (PySem.W.findIn K (.ref C) "__setattr__" == some (some (.builtin "object.__setattr__")))
theorem Qef {K:PySem.W.Frag} {C:Addr} (h:clsB K C=true):Cls K C:=by
 unfold clsB at h
 simp only [Bool.and_eq_true,beq_iff_eq] at h
 obtain⟨⟨⟨h1,h2⟩,h3⟩,h4⟩:=h
 exact⟨h1,h2,h3,h4⟩
noncomputable def fldB (K:PySem.W.Frag) (ca:Nat->Addr) (cs:List Nat) (f:Str):Bool:=cs.all fun c=>clsB K (ca c) && (PySem.W.findIn K (.ref (ca c)) f == some none)
theorem Qb6 {K:PySem.W.Frag} {ca:Nat->Addr} {cs:List Nat} {f:Str} (h:fldB K ca cs f=true):FldOk K ca cs f:=by
 unfold fldB at h
 rw [List.all_eq_true] at h
 exact⟨fun c hc=>Qef (Bool.and_eq_true_iff.mp (h c hc)).1,fun c hc=>beq_iff_eq.mp (Bool.and_eq_true_iff.mp (h c hc)).2⟩
section
variable {X:Cx} {ca:Nat->Addr} {pos:Pos} {x:Str}
theorem Qgc {t:Str} (h:∃ k,X.mg x=some (.str t k)) (hg:Gl X x:=by rfl) (hd:(x == ("__debug__" : Str))=false:=by decide):PE3 ca X (.Name x pos) (mLit (.str t)):=by
 obtain⟨k,h⟩:=h
 exact QhR h (v:=.str t) ⟨k,rfl⟩ (fun _ _ _=>.str t) hg hd
theorem Qgd {i:Int} (h:∃ k,X.mg x=some (.int i k)) (hg:Gl X x:=by rfl) (hd:(x == ("__debug__" : Str))=false:=by decide):PE3 ca X (.Name x pos) (mLit (.int i)):=by
 obtain⟨k,h⟩:=h
 exact QhR h (v:=.int i) ⟨k,rfl⟩ (fun _ _ _=>.int i) hg hd
end
theorem QhY:bootBuiltins "int" = some (.type Ty.int.name):=boot_int
theorem Qge:bootBuiltins "bool" = some (.type Ty.bool.name):=by decide +kernel
theorem QhZ:bootBuiltins "str" = some (.type Ty.str.name):=by decide +kernel
theorem Jx:bootBuiltins "tuple" = some (.type Ty.tuple.name):=boot_tuple
theorem Qdx:bootBuiltins "list" = some (.type Ty.list.name):=boot_list
section
variable {P:Program} {w:World} {K:PySem.W.Frag} {mg:Str->Option Value} {base:Heap} {ca:Nat->Addr}
theorem QiT {f:Addr} {fd:FuncData} {ps:List Str} {k n:Nat} (hn:ps.length=n):FnOk P w K mg base (CXW P w ca) k f fd ps (spM K ca n fun _ _=>.stuck):=by
 subst hn
 exact⟨fun vs H Q E q=>q.1,fun A outer s H args us vs Q E _ _ _ _ h=>by obtain⟨_,_,_,_,_,_,z⟩:=h; exact z.elim⟩
theorem Qkt {F:MF} {H:Hp} {a:Addr} {ns:List Int} (hO:Only H) (hS:SqL K H a (ns.map V.int)) (h:∃ g',F [.fl (ns.map D.int)] []=.ok (.bl true) g'):spM K ca 1 F [.ref a] H (fun v _=>v=.bl true) fun _ _ _=>False:=by
 obtain⟨g',h⟩:=h
 have hF:SqF K H a (ns.map V.int):=by
  rcases hS with(h | ⟨o,h⟩) | h
  ·rcases hO a with z | ⟨o,xs,z⟩
   ·rw [h] at z; cases z
   ·rw [h] at z; cases z
  ·exact .inl ⟨o,h⟩
  ·exact .inr (.inr h)
 refine⟨rfl,[.fl (ns.map D.int)],[],[],⟨rfl,.nil,fun n a o h=>by simp at h⟩,.cons (.fl hF (Dens.ints ns)) .nil,?_⟩
 rw [h]
 intro v H' μ' e r q
 cases q
 rfl
end
end L3
end
section
namespace L3
open PySem PySem.Spec
theorem len0 {α:Type} {us:List α} (h:us.length=0):us=[]:=List.eq_nil_of_length_eq_zero h
theorem len1 {α:Type} {us:List α} (h:us.length=1):∃ a0,us=[a0]:=by
 cases us with
 | nil=>cases h
 | cons a r =>
  have e:=len0 (Nat.succ.inj h)
  subst e
  exact⟨a,rfl⟩
theorem len2 {α:Type} {us:List α} (h:us.length=2):∃ a0 a1,us=[a0,a1]:=by
 cases us with
 | nil=>cases h
 | cons a r =>
  obtain⟨b0,rfl⟩:=len1 (Nat.succ.inj h)
  exact⟨a,b0,rfl⟩
theorem len3 {α:Type} {us:List α} (h:us.length=3):∃ a0 a1 a2,us=[a0,a1,a2]:=by
 cases us with
 | nil=>cases h
 | cons a r =>
  obtain⟨b0,b1,rfl⟩:=len2 (Nat.succ.inj h)
  exact⟨a,b0,b1,rfl⟩
theorem len4 {α:Type} {us:List α} (h:us.length=4):∃ a0 a1 a2 a3,us=[a0,a1,a2,a3]:=by
 cases us with
 | nil=>cases h
 | cons a r =>
  obtain⟨b0,b1,b2,rfl⟩:=len3 (Nat.succ.inj h)
  exact⟨a,b0,b1,b2,rfl⟩
theorem len5 {α:Type} {us:List α} (h:us.length=5):∃ a0 a1 a2 a3 a4,us=[a0,a1,a2,a3,a4]:=by
 cases us with
 | nil=>cases h
 | cons a r =>
  obtain⟨b0,b1,b2,b3,rfl⟩:=len4 (Nat.succ.inj h)
  exact⟨a,b0,b1,b2,b3,rfl⟩
noncomputable def Qh0:Expr->Bool
 | .Starred ..=>false
 | _=>true
theorem Qgf {e:Expr} {es:List Expr} {env:Env} (h:Qh0 e=true):starEach (e::es) env=(false,eval e env)::starEach es env:=by
 cases e <;> first | rfl | exact absurd h Bool.false_ne_true
variable {P:Program} {w:World} {K:PySem.W.Frag} {mg:Str->Option Value} {base:Heap} {ca:Nat->Addr} {X:L2.Cx}
theorem Qe {e:Expr} {es:List Expr} {me:ME} {mr:MA} (ha:PE3 ca X e me) (hr:PA3 ca X es mr) (hs:Qh0 e=true:=by rfl):PA3 ca X (e::es) (Qb me mr):=JG ha hr (Qgf hs)
noncomputable def Qh1:Expr->Bool
 | .ListComp ..=>false
 | .SetComp ..=>false
 | .DictComp ..=>false
 | _=>true
theorem QiU {e:Expr} {t:Option Expr} {l:Nat} {env:Env} (h:Qh1 e=true):swapsWith e t l env=pure false:=by
 cases e <;> first | rfl | exact absurd h Bool.false_ne_true
theorem Qw (i:Nat) {x:Str} {pos pos':Pos} {e:Expr} {me:ME} (hN:X.N.Nodup) (he:PE3 ca X e me) (hi:X.N[i]?=some x:=by rfl) (hx:L2.Loc X.env.scope x:=by first | exact Or.inl rfl | exact Or.inr rfl)
  (hs:Qh1 e=true:=by rfl) (hf:X.fn x=true∨X.env.scope.names.lookup x=some .local:=by first | exact .inl rfl | exact .inr rfl) :
  PS3 ca X (.Assign [.Name x pos'] e pos) (mAsg (gSet i) me):=Qlk i hN he hi hx (QiU hs) hf
end L3
end
section
namespace PySem
namespace F
end F
end PySem
end
section
namespace L3
open PySem PySem.Spec PyProof.Rows PySem.Calls
section
variable {prog:Program} {w:World} {A:Around} {E:Value->Shared->Prop} {s:Shared}
noncomputable def IsRevT (h:Heap) (a l:Addr) (i:Int):Prop:=∃ o,h.get? a=some o∧o.cls=.type "reversed" ∧ o.data=.fields #[.ref l,rawInt i]
theorem IsRevT.typeIs {a l:Addr} {i:Int} (x:IsRevT s.heap a l i):s.TypeIs (.ref a) "reversed":=let ⟨o,ho,hc,_⟩:=x; ⟨o,ho,hc⟩
theorem IsRevT.at {h h':Heap} {a l:Addr} {i:Int} (x:IsRevT h a l i) (e:∀ o,h.get? a=some o->h'.get? a=some o):IsRevT h' a l i:=let ⟨o,ho,r⟩:=x; ⟨o,e _ ho,r⟩
end
end L3
end
section
namespace PySem
open Sem (wp)
namespace F
theorem nolen_lri:typeLookup (.type "list_reverseiterator") "__len__" = pure none:=by rw [typeLookup_type,builtinLookup_eq_fast]; kernel_rfl
theorem hint_lri:typeLookup (.type "list_reverseiterator") "__length_hint__" = pure (some (.builtin "list_reverseiterator.__length_hint__")):=by rw [typeLookup_type,builtinLookup_eq_fast]; kernel_rfl
end F
section
variable {prog:Program} {w:World} {A:Around} {E:Value->Shared->Prop} {s:Shared} {I:Addr} {fp wr:List Addr} {G:Array GenState->Array GenState->Prop} {n:Nat} {P:Nat->Value->Prop} {St:Nat->Shared->Prop}
theorem QeT {R:Result->Shared->Prop} (W:WalksS prog w A.in1 I fp wr G n P St) (hT:∀ i s,St i s->s.TypeIs (.ref I) "list_reverseiterator") (S:Addr) (res:Value) (c₀:Nat) (hst:St 0 s) (hSf:S∉fp) (hI:I∈fp)
  (hS:s.heap.get? S=some { cls:=.type "list",data:=.seq #[] c₀ })
  (hR:∀ s' acc' c',Moved (S::wr) G s s'->s'.heap.get? S=some { cls:=.type "list",dict:=none,data:=.seq acc' c',slots:=#[] }->ItemsOf P acc' n->R (.ok (.ret res)) s') (hn:n≤sizeLine) :
  wpAny (model prog w) A.in1 (Builtin.List.listExtendWith (.ref S) (.ref I) res)
   (fun fin s'=>match fin with | .done f=>R (.ok f) s' | .again c'=>c'.quiet=true∧codeAny (model prog w) A c' R s') (fun e s'=>R (.error e) s') s:=by
 have hSI:S≠I:=fun e=>hSf (e ▸ hI)
 have h1:Builtin.List.listSameRef (.ref S) (.ref I)=false:=by simp [Builtin.List.listSameRef,hSI]
 unfold Builtin.List.listExtendWith
 refine wpAny_bind (wpAny_typeOf (hT 0 _ hst) ?_)
 rw [if_neg (by rw [h1]; decide)]
 refine wpAny_bind (W.self 0 _ _ _ hst ?_)
 refine wpAny_bind (wpAny_holding ?_)
 unfold Builtin.List.listLengthHint
 refine wpAny_bind (wpAny_specialOf (hT 0 _ hst) F.nolen_lri ?_)
 show wpAny _ A.in1 (specialOf (Value.ref I) (Str.ofString "__length_hint__") >>= _) _ _ _
 refine wpAny_bind (wpAny_specialOf (hT 0 _ hst) F.hint_lri ?_)
 (generalize hid:("list_reverseiterator.__length_hint__" : String)=id0; (fail_if_success (clear hid id0)); wp_delta; rw [show splitId id0=some ("list_reverseiterator", "__length_hint__") from by subst hid; decide +kernel]; subst hid)
 refine wpAny_bind (wpAny_isInstance (b:=true) (hT 0 _ hst) (by rw [isSubtype_type]; kernel_rfl) ?_)
 refine wpAny_pure ?_
 rw [if_neg (by decide)]
 refine wpAny_pure ⟨plainId_quiet F.plain_extend_loop _,codeAny_extend_loopS W hn _ hSf _ n 0 _ _ _ rfl (Nat.zero_le _) hst hS (ItemsOf.nil P) fun s' acc' c' hm hS' hacc=>?_⟩
 exact hR s' acc' c' hm hS' hacc
theorem Qhn {R:Result->Shared->Prop} (W:WalksS prog w A.in1 I fp wr G n P St) (hT:∀ i s,St i s->s.TypeIs (.ref I) "list_reverseiterator") (S:Addr) (hst:St 0 s) (hSf:S∉fp) (hI:I∈fp)
  (hS:s.heap.get? S=some { cls:=.type "list",data:=.seq #[] })
  (hR:∀ s' acc' c',Moved (S::wr) G s s'->s'.heap.get? S=some { cls:=.type "list",dict:=none,data:=.seq acc' c',slots:=#[] }->ItemsOf P acc' n->R (.ok (.ret .none)) s') (hn:n≤sizeLine) :
  wpAny (model prog w) A.in1 (Builtin.«list.__init__» ⟨[.ref S,.ref I],[]⟩)
   (fun fin s'=>match fin with | .done f=>R (.ok f) s' | .again c'=>c'.quiet=true∧codeAny (model prog w) A c' R s') (fun e s'=>R (.error e) s') s:=by
 show wpAny _ A.in1 (do let old ← Builtin.List.listItems (.ref S); Builtin.List.listUpdate (.ref S) (fun _=>#[]); letGo old.toList.reverse; Builtin.List.listExtendWith (.ref S) (.ref I) .none) _ _ s
 refine wpAny_bind ?_
 unfold Builtin.List.listItems
 refine wpAny_bind (wpAny_seqItems hS rfl (wpAny_pure ?_))
 show wpAny _ A.in1 (updateSeq S (fun _=>#[]) >>= fun _=>letGo (#[]:Array Value).toList.reverse >>= fun _=>Builtin.List.listExtendWith (.ref S) (.ref I) .none) _ _ s
 refine wpAny_bind (wpAny_updateSeq hS rfl ?_)
 have hS₂:=Heap.get?_update_self (Obj.mapSeq (fun _=>(#[]:Array Value))) hS rfl
 have oth:∀ b o,b≠S->s.heap.get? b=some o->(s.heap.update S (Obj.mapSeq (fun _=>(#[]:Array Value)))).get? b=some o:=fun b o hb e=>(Heap.get?_update_other _ _ (Ne.symm hb)).trans e
 refine wpAny_bind (wpAny_letGo ?_)
 refine QeT (hn:=hn) W hT S .none _ (W.frame 0 s _ s.toks hst (Nat.le_refl _) fun b hb o e=>oth b o (fun h=>hSf (h ▸ hb)) e) hSf hI hS₂ fun s' acc' c' hm hS' hacc=>?_
 exact hR s' acc' c' (Moved.trans W.gtrans ((Moved.refl W.grefl).then_heap (Nat.le_refl _) fun b o hb e=>oth b o (fun h=>hb (h ▸ List.mem_cons_self)) e) hm) hS' hacc
theorem Qcq {Q:Value->Shared->Prop} (W:WalksS prog w A.in1.in1 I fp wr G n P St) (hT:∀ i s,St i s->s.TypeIs (.ref I) "list_reverseiterator") (hst:St 0 s) (hfp:∀ b∈fp,b<s.heap.objs.size) (hI:I∈fp)
  (hQ:∀ s' acc' c',Moved (s.heap.objs.size::wr) G { s with heap:=s.heap.push { cls:=.type "list",data:=.seq #[] } } s' ->
   s'.heap.get? s.heap.objs.size=some { cls:=.type "list",dict:=none,data:=.seq acc' c',slots:=#[] }->ItemsOf P acc' n->Q (.ref s.heap.objs.size) s') (hn:n≤sizeLine) :
  wpAny (model prog w) A (call (.type "list") [.ref I]) Q E s:=by
 have hSf:s.heap.objs.size∉fp:=fun hm=>Nat.lt_irrefl _ (hfp _ hm)
 refine callType_codes (Q₁:=fun obj s₁=>obj=.ref s.heap.objs.size∧s₁ = { s with heap:=s.heap.push { cls:=.type "list",data:=.seq #[] } }) F.called_list (F.typeCall_list_1 _) F.entry_list_init
  (code_list_new _ ⟨rfl,rfl⟩) fun obj s₁ h₁=>?_
 obtain⟨rfl,rfl⟩:=h₁
 have hS:(s.heap.push { cls:=.type "list",data:=.seq #[] }).get? s.heap.objs.size=some { cls:=.type "list",data:=.seq #[] }:=Heap.get?_push_size _ rfl
 refine⟨⟨_,hS,rfl⟩,F.args_list_init_2 _ _,Qhn (hn:=hn) W hT _ (W.frame 0 s _ s.toks hst (Nat.le_refl _) fun b _ o e=>Heap.get?_push_of_some _ e) hSf hI hS fun s' acc' c' hm hS' hacc=>?_⟩
 exact⟨rfl,hQ s' acc' c' hm hS' hacc⟩
theorem Qcr {l:Addr} {its:List Value} {Q:Value->Shared->Prop} (hh:A.handled=none) (hne:l≠I) (hit:s.heap.IsRevIter I l ((its.toArray.size:Int) - 1)) (hl:s.heap.IsList l its.toArray) (hsz:its.toArray.size≤sizeLine)
  (hQ:∀(h':Heap) (tk c:Nat),(∀ b o,b≠I->s.heap.get? b=some o->h'.get? b=some o)->h'.get? s.heap.objs.size=some { cls:=.type "list",data:=.seq its.reverse.toArray c }->Q (.ref s.heap.objs.size) { s with heap:=h',toks:=tk }) :
  wpAny (model prog w) A (call (.type "list") [.ref I]) Q E s:=by
 refine Qcq (Walks.listRev (A:=A.in1.in1) hh I l hne its.toArray).toS (fun _ _ st=>st.2.1.typeIs) ⟨Nat.zero_le _,by simpa using hit,hl⟩ (fun b hb=>?_) (by simp) (fun s' acc c' hm hS ha=>?_) hsz
 ·obtain⟨o,ho,_⟩:=hit
  obtain⟨o',ho',_⟩:=hl
  rcases List.mem_cons.mp hb with rfl | hb
  ·exact Heap.lt_size ho
  ·rw [List.mem_singleton.mp hb]; exact Heap.lt_size ho'
 ·have e:acc=its.reverse.toArray:=by
   apply Array.ext_getElem?
   intro i
   by_cases hi:i<its.length
   ·have h1:acc[i]?=some (acc[i]'(by rw [ha.1]; simpa using hi)):=Array.getElem?_eq_getElem _
    have h2:=ha.2 i _ h1
    rw [h1,← h2]
    simp only [List.size_toArray,List.getElem?_toArray,List.getElem?_reverse hi]
   ·have hs:acc.size=its.length:=by rw [ha.1]; simp
    rw [Array.getElem?_eq_none (by omega),List.getElem?_toArray,List.getElem?_eq_none (by simp; omega)]
  subst e
  have e2:s' = { s with heap:=s'.heap,toks:=s'.toks }:=by
   have a1:=hm.gens
   have a2:=hm.drawn
   have a3:=hm.os
   cases s'
   cases s
   simp only at a1 a2 a3 ⊢
   subst a1 a2 a3
   rfl
  have:=hQ s'.heap s'.toks c' (fun b o hb e=>hm.heap b o (by simp; exact⟨Nat.ne_of_lt (Heap.lt_size e),hb⟩) (Heap.get?_push_of_some _ e)) hS
  rw [e2]
  exact this
end
end PySem
end
section
namespace L3
open PySem
noncomputable def Qdy (x y:D) (g:G):Res D:=match x,y with
 | .int i,.int j=>.ok (.int (if j<i then j else i)) g
 | _,_=>.stuck
end L3
end
section
namespace L3
open PySem PySem.Spec PyProof.Rows L2
section
variable {X:Cx} {ca:Nat->Addr} {a b e f o:Expr} {ma mb me mf mo:ME} {p pos apos:Pos}
theorem Qku {x:Str} {id:String} {r:List V->Hp->VK->Prop} {h:D->D->G->Res D} (hc:∀ pn Φ,CallR (xat X ca pn Φ) (.builtin id) r) (hm:X.mg x=none) (hv:bootBuiltins x=some (.builtin id))
  (hp:∀(Φ:XS) (σ:L2.St) (H:Hp) (μ:List Addr) (g:G) (y z:V) (d c:D) (Q:VK),GRep X.K ca μ H g->Den X.K μ H y d->Den X.K μ H z c->Post X.K ca Φ σ Q H μ (h d c g)->r [y,z] H Q) (he:PE3 ca X e me) (hf:PE3 ca X f mf) (hg:Gl X x) (hn:x ≠ "__name__") (hdb:(x == ("__debug__" : Str))=false)
  (hs:starEach [e,f] X.env=(false,eval e X.env)::starEach [f] X.env) (hs2:starEach [f] X.env=(false,eval f X.env)::starEach [] X.env) (hpl:(backTo pos (starEach [f] X.env)).any (·.1)=false):PE3 ca X (.Call (.Name x p) [e,f] [] pos) (mOp2 h me mf) :=
 fun pn Φ=>Zo (QaU (X:=xat X ca pn Φ) (hc pn Φ) hg hm hv (JG he (JG hf Ql hs2) hs pn Φ) hn hdb hs hpl) fun σ H Q hQ=>by
  obtain⟨σ3,g,μ,R,q⟩:=hQ
  refine⟨σ3,g,μ,R,?_⟩
  unfold mOp2 at q
  unfold Qb mNil
  cases hm:me σ3 g with
  | raise _ _=>rw [hm] at q; exact q
  | stuck=>rw [hm] at q; exact q.elim
  | ok d g1 =>
   rw [hm,Res.bind_ok] at q
   rw [Res.bind_ok]
   cases hm2:mf σ3 g1 with
   | raise _ _=>rw [hm2] at q; exact q
   | stuck=>rw [hm2] at q; exact q.elim
   | ok c g2 =>
    rw [hm2,Res.bind_ok] at q
    rw [Res.bind_ok,Res.bind_ok,Res.bind_ok]
    intro vs H1 μ1 e1 r1 q1
    cases q1 with
    | cons h1 h2=>cases h2 with
     | cons h2 h3 =>
      cases h3
      exact hp Φ σ H1 μ1 g2 _ _ d c Q r1 h1 h2 (q.go e1)
theorem Qh2 (hc:X.calm=true) (hm:X.mg "min" = none) (he:PE3 ca X e me) (hf:PE3 ca X f mf) (hg:Gl X "min":=by rfl) (hs:starEach [e,f] X.env=(false,eval e X.env)::starEach [f] X.env:=by rfl) (hs2:starEach [f] X.env=(false,eval f X.env)::starEach [] X.env:=by rfl) (hpl:(backTo pos (starEach [f] X.env)).any (·.1)=false:=by rfl) :
  PE3 ca X (.Call (.Name "min" p) [e,f] [] pos) (mOp2 Qdy me mf) :=
 Qku (fun pn Φ=>Qfs (X:=xat X ca pn Φ) hc) hm boot_min (fun Φ σ H μ g y z d c Q r q1 q2 pp=>by
  unfold Qdy at pp
  cases q1 with
  | int i =>
   cases q2 with
   | int j=>exact⟨i,j,rfl,pp _ H μ .refl r (.int _)⟩
   | _=>exact pp.elim
  | _=>cases q2 <;> exact pp.elim) he hf hg (by decide) (by decide) hs hs2 hpl
end
end L3
end
section
namespace L3
open PySem
noncomputable def Qc4 (x:D) (g:G):Res D:=match tyOf g x with
 | some t=>.ok (.bl (tyLe t .list || tyLe t .tuple)) g
 | none=>.stuck
noncomputable def cP (i j:Int):Prop:=0≤j∧j≤1000∧i.natAbs<1000000
noncomputable instance (i j:Int):Decidable (cP i j):=inferInstanceAs (Decidable (_∧_∧_))
noncomputable def pPow (x y:D) (g:G):Res D:=match x,y with
 | .int i,.int j=>if cP i j then .ok (.int (i ^ j.toNat)) g else .stuck
 | _,_=>.stuck
end L3
end
section
namespace L3
open PySem PySem.Spec PyProof.Rows L2
section
variable {X:Cx} {ca:Nat->Addr} {e:Expr} {me:ME} {pos p p2 tp:Pos} {all cs:List Nat}
theorem Jk (K:PySem.W.Frag) (t:Ty):PySem.W.kitAny K (.type t.name) [.type "list",.type "tuple"]=some (tyLe t .list || tyLe t .tuple):=by
 unfold PySem.W.kitAny
 rw [show Value.type "list" = .type Ty.list.name from rfl,YB]
 cases tyLe t .list with
 | true=>rfl
 | false =>
  dsimp only
  unfold PySem.W.kitAny
  rw [show Value.type "tuple" = .type Ty.tuple.name from rfl,YB]
  cases tyLe t .tuple <;> rfl
theorem QiV {h:Heap} {a:Addr} {xs:Array Value} (p:IsTup h a xs):∃ dd n sl,h.get? a=some ⟨.type "tuple",dd,.seq xs n,sl⟩:=by
 obtain⟨⟨cls,dd,data,sl⟩,h1,h2,n,h3⟩:=p
 simp only at h2 h3
 subst h2 h3
 exact⟨dd,n,sl,h1⟩
theorem QeU:CallR X (.builtin "isinstance") (fun xs H Q=>∃ x q g μ d t,xs=[x,.ref q]∧SqT X.K H q [.ty "list",.ty "tuple"]∧GRep X.K ca μ H g∧Den X.K μ H x d∧tyOf g d=some t∧Q (.bl (tyLe t .list || tyLe t .tuple)) H):=by
 intro pins s σ H xs us Q I rv h
 obtain⟨x,q,g,μ,d,t,rfl,hq,r,qd,ht,qq⟩:=h
 obtain⟨u,u2,rfl,ru,ru2⟩:=rv.two
 cases ru2
 obtain⟨its,r1,p1,_⟩:=I.tuple hq
 obtain⟨w1,w2,rfl,a1,a2⟩:=r1.two
 cases a1; cases a2
 obtain⟨dd,n,sl,ho⟩:=QiV p1
 have fin:∀ tk,EP X pins σ Q (.bool (tyLe t .list || tyLe t .tuple)) { s with toks:=tk }:=fun tk=>⟨.bl _,H,I.tok tk,rfl,qq⟩
 cases qd with
 | non=>cases ht; cases (show u=Value.none from ru); exact PySem.W.kia_tup PySem.W.kitx_none I.kIn True.intro ho (Jk X.K .non) (fun z=>nomatch z) fin
 | bl y=>cases ht; cases (show u=Value.bool y from ru); exact PySem.W.kia_tup PySem.W.kitx_bool I.kIn True.intro ho (Jk X.K .bool) (fun z=>nomatch z) fin
 | int y=>cases ht; obtain⟨t,q⟩:=(show ∃ t,u=Value.int y t from ru); cases q; exact PySem.W.kia_tup PySem.W.kitx_int I.kIn True.intro ho (Jk X.K .int) (fun z=>nomatch z) fin
 | str y=>cases ht; obtain⟨t,q⟩:=(show ∃ t,u=Value.str y t from ru); cases q; exact PySem.W.kia_tup PySem.W.kitx_str I.kIn True.intro ho (Jk X.K .str) (fun z=>nomatch z) fin
 | @tup a vs ds hq hs =>
  cases ht
  cases ru
  obtain⟨its,_,⟨o,h1,h2,_⟩,_⟩:=I.tuple hq
  exact PySem.W.kia_tup PySem.W.kitx_tuple I.kIn ⟨o,h1,h2⟩ ho (Jk X.K .tuple) (fun z=>nomatch z) fin
 | @fl a vs ds hq hs =>
  cases ht
  cases ru
  obtain⟨its,_,p,_⟩:=I.list hq.sq
  obtain⟨o,h1,h2,_⟩:=p.isList
  exact PySem.W.kia_tup PySem.W.kitx_list I.kIn ⟨o,h1,h2⟩ ho (Jk X.K .list) (fun z=>nomatch z) fin
 | @ref n a hn =>
  unfold tyOf at ht
  dsimp only at ht
  cases hg:g[n]? with
  | none=>rw [hg] at ht; cases ht
  | some o =>
   rw [hg] at ht
   obtain⟨a',ha',ob⟩:=r.addr hg
   rw [hn] at ha'; cases ha'
   cases o with
   | lst ds =>
    cases ht
    obtain⟨vs,hH,_⟩:=ob
    cases ru
    obtain⟨_,_,n,_,h1⟩:=(show ObjOk X.prog X.w H s.heap a (.lst vs) from I.hok a _ hH)
    exact PySem.W.kia_tup PySem.W.kitx_list I.kIn ⟨_,h1,rfl⟩ ho (Jk X.K .list) (fun z=>nomatch z) fin
   | dct ks =>
    cases ht
    obtain⟨kv,hH,_⟩:=ob
    cases ru
    obtain⟨_,_,vs,_,p⟩:=(show ObjOk X.prog X.w H s.heap a (.dK kv) from I.hok a _ hH)
    obtain⟨o,es,ep,h1,h2,_⟩:=p
    exact PySem.W.kia_tup PySem.W.kitx_dict I.kIn ⟨o,h1,h2.1⟩ ho (Jk X.K .dict) (fun z=>nomatch z) fin
   | ins _ _=>cases ht
   | exc _=>cases ht
theorem QiW {k:Nat} {p3:Pos} (hi:X.mg "isinstance" = none) (hl:X.mg "list" = none) (ht:X.mg "tuple" = none) (he:PE3 ca X e me) (hgi:Gl X "isinstance":=by rfl) (hgl:Gl X "list":=by rfl) (hgt:Gl X "tuple":=by rfl)
  (hs:starEach [e,.Tuple [.Name "list" p2,.Name "tuple" p3] k tp] X.env=(false,eval e X.env)::starEach [.Tuple [.Name "list" p2,.Name "tuple" p3] k tp] X.env:=by rfl) (hs2:starEach [.Tuple [.Name "list" p2,.Name "tuple" p3] k tp] X.env=(false,eval (.Tuple [.Name "list" p2,.Name "tuple" p3] k tp) X.env)::starEach [] X.env:=by rfl)
  (hs3:starEach [.Name "list" p2,.Name "tuple" p3] X.env=(false,eval (.Name "list" p2) X.env)::starEach [.Name "tuple" p3] X.env:=by rfl) (hs4:starEach [.Name "tuple" p3] X.env=(false,eval (.Name "tuple" p3) X.env)::starEach [] X.env:=by rfl)
  (hpl:(backTo pos (starEach [.Tuple [.Name "list" p2,.Name "tuple" p3] k tp] X.env)).any (·.1)=false:=by rfl) :
  PE3 ca X (.Call (.Name "isinstance" p) [e,.Tuple [.Name "list" p2,.Name "tuple" p3] k tp] [] pos) (mOp1 Qc4 me) :=
 fun pn Φ=>Zo (QaU (X:=xat X ca pn Φ) (QeU (ca:=ca)) hgi hi boot_isinstance (JN (X:=xat X ca pn Φ) (he pn Φ) (JN (X:=xat X ca pn Φ) (QhO (X:=xat X ca pn Φ) (JN (X:=xat X ca pn Φ) (Qdk (X:=xat X ca pn Φ) (v:=.ty "list") hgl hl boot_list rfl (by decide) (by decide)) (JN (X:=xat X ca pn Φ) (Qdk (X:=xat X ca pn Φ) (v:=.ty "tuple") hgt ht boot_tuple rfl (by decide) (by decide)) QdX hs4) hs3)) QdX hs2) hs) (by decide) (by decide) hs hpl) fun σ H Q ⟨σ3,g,μ,R,q⟩ =>
  Za (JE R q) fun y H1 hQ=>by
   obtain⟨d,g1,μ1,e1,R1,q1,p1⟩:=hQ
   unfold Qc4 at p1
   cases ht:tyOf g1 d with
   | none=>rw [ht] at p1; exact p1.elim
   | some t =>
    rw [ht] at p1
    exact⟨Nat.le_trans (by decide:2≤SZ) Jg,fun q hq=>⟨y,q,g1,μ1,d,t,rfl,.of Qu,R1.g.new hq,q1.mono (Q0 hq),ht,p1 _ _ μ1 (Q0 hq) (R1.g.new hq) (.bl _)⟩⟩
end
theorem Qkv {X:Cx} {ca:Nat->Addr} {a b:Expr} {ma mb:ME} {pos:Pos} (ha:PE3 ca X a ma) (hb:PE3 ca X b mb):PE3 ca X (.BinOp a .Pow b pos) (mOp2 pPow ma mb) :=
 QeP (fun _ _=>QjL) (Qdu (fun Φ σ i j g Q H μ r p=>by
  unfold pPow at p
  by_cases z:cP i j
  ·dsimp only at p; rw [if_pos z] at p; exact⟨⟨z.1,Int.le_trans z.2.1 (by decide),Nat.lt_of_lt_of_le z.2.2 (by decide)⟩,p _ H μ .refl r (.int _)⟩
  ·dsimp only at p; rw [if_neg z] at p; exact p.elim) (J7 fun x y g=>by cases x <;> cases y <;> first | exact .inl ⟨_,_,rfl,rfl⟩ | exact .inr rfl)) ha hb
end L3
end
section
namespace L3
open PySem
noncomputable def anyB:List D->Option Bool
 | []=>some false
 | .bl b::r=>(anyB r).map (b || ·)
 | _::_=>none
noncomputable def pAny (x:D) (g:G):Res D:=match x with
 | .ref n=>(match g[n]? with
  | some (.lst ds)=>(match anyB ds with
   | some b=>.ok (.bl b) g
   | none=>.stuck)
  | _=>.stuck)
 | _=>.stuck
noncomputable def Zv (x:D) (g:G):Res D:=match QE g x with
 | some (true,ds)=>.ok (.ref g.length) (g++[.lst ds.reverse])
 | _=>.stuck
end L3
end
section
namespace L3
open PySem PySem.Spec PyProof.Rows L2
theorem Qeg:∀ {xs:List V} {us:List Value},Vals xs us->Vals xs.reverse us.reverse
 | _,_,.nil=>.nil
 | _,_,.cons h t=>by rw [List.reverse_cons,List.reverse_cons]; exact(Qeg t).append (.cons h .nil)
theorem Dens.rev {K:PySem.W.Frag} {μ:List Addr} {H:Hp}:∀ {vs:List V} {ds:List D},Dens K μ H vs ds->Dens K μ H vs.reverse ds.reverse
 | _,_,.nil=>.nil
 | _,_,.cons h t=>by rw [List.reverse_cons,List.reverse_cons]; exact(Dens.rev t).append (.cons h .nil)
section
variable {X:Cx} {ca:Nat->Addr} {e:Expr} {me:ME} {p p2 pos pos2:Pos}
theorem Qeh {K:PySem.W.Frag} {μ:List Addr} {H:Hp}:∀ {vs:List V} {ds:List D} {us:List Value} {b:Bool},Dens K μ H vs ds->Vals vs us->anyB ds=some b->∃ bs:List Bool,us=bs.map Value.bool∧bs.any id=b
 | _,_,_,b,.nil,.nil,h=>by cases h; exact⟨[],rfl,rfl⟩
 | _,_,_,b,@Dens.cons _ _ _ _ _ _ ds q qs,.cons r rs,h=>by
  cases q with
  | bl c =>
   unfold anyB at h
   cases hd:anyB ds with
   | none=>rw [hd] at h; cases h
   | some d =>
    rw [hd] at h
    cases h
    obtain⟨bs,h1,h2⟩:=Qeh qs rs hd
    cases r
    exact⟨c::bs,by rw [h1]; rfl,by simp [h2]⟩
  | _=>cases h
theorem Qgg (bs:List Bool):((List.range bs.length).any fun i=>(bs[i]?).getD false)=bs.any id:=by
 rw [Bool.eq_iff_iff,List.any_eq_true,List.any_eq_true]
 constructor
 ·intro ⟨i,hi,h⟩
  have hi':=List.mem_range.mp hi
  exact⟨bs[i],List.getElem_mem hi',by simpa [hi'] using h⟩
 ·intro ⟨b,hb,h⟩
  obtain⟨i,hi,rfl⟩:=List.getElem_of_mem hb
  exact⟨i,List.mem_range.mpr hi,by simpa [hi] using h⟩
theorem Qgh (hc:X.calm=true):CallR X (.builtin "any") (fun xs H Q=>∃ p vs ds μ b,xs=[.ref p]∧SqL X.K H p vs∧Dens X.K μ H vs ds∧anyB ds=some b∧Q (.bl b) H):=by
 intro pins s σ H xs us Q I rv h
 obtain⟨l,vs,ds,μ,b,rfl,hq,q,hb,qq⟩:=h
 obtain⟨u,rfl,ru⟩:=rv.one
 cases ru
 obtain⟨its,rs,pl,_⟩:=I.list hq
 obtain⟨bs,rfl,e2⟩:=Qeh q rs hb
 have hl:=pl.isList
 have hlt:l<s.heap.objs.size:=by obtain⟨_,e,_⟩:=hl; exact Heap.lt_size e
 refine call_any_walk (wpAny_pyIter_list hl ⟨s.heap.objs.size,[s.heap.objs.size,l],[s.heap.objs.size],_,_,_,fun i=>(bs[i]?).getD false,rfl,Walks.list (A:=X.A.in1) (show X.A.in1.handled=none from I.ok.hd hc) _ l (Nat.ne_of_lt hlt) _,⟨⟨_,Heap.get?_push_size _ rfl,rfl,rfl⟩,hl.push _⟩,fun i v s' Q' E' hP hQ=>?_,fun h' tk hk=>?_⟩)
 ·have hP:(bs.map Value.bool).toArray[i]?=some v:=hP
  rw [List.getElem?_toArray,List.getElem?_map] at hP
  cases hi:bs[i]? with
  | none=>rw [hi] at hP; cases hP
  | some c =>
   rw [hi] at hP
   cases hP
   simp only [hi,Option.getD_some] at hQ
   exact wpAny_truthy_bool hQ
 ·have kept:∀ c o,s.heap.get? c=some o->h'.get? c=some o:=fun c o e=>hk c o (fun hm=>by rw [List.mem_singleton.mp hm] at e; exact Nat.lt_irrefl _ (Heap.lt_size e)) (Heap.get?_push_of_some _ e)
  have ea:((List.range (bs.map Value.bool).toArray.size).any fun i=>(bs[i]?).getD false)=b:=by
   rw [List.size_toArray,List.length_map,Qgg,e2]
  rw [ea]
  exact⟨.bl b,H,I.kept kept,rfl,qq⟩
theorem Qln (hc:X.calm=true) (hm:X.mg "any" = none) (he:PE3 ca X e me) (hg:Gl X "any":=by rfl) (hs:starEach [e] X.env=[(false,eval e X.env)]:=by rfl) (hpl:(backTo pos (starEach [] X.env)).any (·.1)=false:=by rfl) :
  PE3 ca X (.Call (.Name "any" p) [e] [] pos) (mOp1 pAny me) :=
 QiJ (r:=fun xs H Q=>∃ p vs ds μ b,xs=[V.ref p]∧SqL X.K H p vs∧Dens X.K μ H vs ds∧anyB ds=some b∧Q (.bl b) H) (fun pn Φ=>Qgh (X:=xat X ca pn Φ) hc) hm boot_any (fun Φ σ H μ g y d Q r q pp=>by
  unfold pAny at pp
  cases q with
  | @ref n t hn =>
   dsimp only at pp
   cases hgn:g[n]? with
   | none=>rw [hgn] at pp; exact pp.elim
   | some ob =>
    rw [hgn] at pp
    obtain⟨t',ht',orp⟩:=r.addr hgn
    rw [hn] at ht'; cases ht'
    cases ob with
    | lst ds =>
     obtain⟨vs,hH,q⟩:=orp
     dsimp only at pp
     cases hb:anyB ds with
     | none=>rw [hb] at pp; exact pp.elim
     | some b=>rw [hb] at pp; exact⟨t,vs,ds,μ,b,rfl,.of hH,q,hb,pp _ H μ .refl r (.bl _)⟩
    | _=>exact pp.elim
  | _=>exact pp.elim) he hg (by decide) (by decide) hs hpl
theorem QeV {ta:TA} (hs0:starEach [.Call (.Name "reversed" p2) [e] [] pos2] X.env=[(false,eval (.Call (.Name "reversed" p2) [e] [] pos2) X.env)]) (hg:Gl X "list") (hm:X.mg "list" = none) (hg2:Gl X "reversed") (hm2:X.mg "reversed" = none)
  (ha:PA X [e] ta) (hs:starEach [e] X.env=[(false,eval e X.env)]) (hc:X.calm=true) :
  PE X (.Call (.Name "list" p) [.Call (.Name "reversed" p2) [e] [] pos2] [] pos) (fun σ H Q=>ta σ H fun vs H1=>∃ a xs,vs=[.ref a]∧SqL X.K H1 a xs∧∀ l,H1 l=none->Q (.ref l) (upd H1 l (.lst xs.reverse))):=by
 intro pins s σ H Q I h
 refine Call_ (Qa6 I hg hm boot_list (PyProof.Rows.callWith_type1 ?_ hs0 rfl))
 rw [hs0]
 show wpAny _ _ (spliced ((false,eval (.Call (.Name "reversed" p2) [e] [] pos2) X.env)::[])) _ _ s
 refine Calls.spliced_cons (Call_ (Qa6 I hg2 hm2 boot_reversed (PyProof.Rows.callWith_type1 (thn (ha pos2 pins s σ H _ I h) fun us s1 hv=>?_) hs rfl)))
 obtain⟨vs,H1,I1,r1,a,xs,rfl,hq,q⟩:=hv
 cases r1 with
 | cons r rr =>
  cases rr
  cases r
  obtain⟨its,rv,pl,hz⟩:=I1.list hq
  have hl:=rv.length
  obtain⟨f0,f1,f2,f3,f4,f5⟩:=I1.fpOk (Nat.le_refl _) (I1.hok.fresh (Nat.le_refl _))
  refine call_reversed_list pl.isList (Calls.spliced_nil ?_)
  have I2:Inv X pins σ H1 { s1 with heap:=s1.heap.push (revObj a ((its.toArray.size:Int) - 1)) }:=I1.kept (t':=s1.toks) fun b o e=>Heap.get?_push_of_some _ e
  have ll:a≠s1.heap.objs.size:=fun z=>by
   obtain⟨o,ho,_⟩:=pl.isList
   exact absurd (Heap.lt_size ho) (by rw [z]; exact Nat.lt_irrefl _)
  refine Qcr (I:=s1.heap.objs.size) (l:=a) (its:=its) (s:={ s1 with heap:=s1.heap.push (revObj a ((its.toArray.size:Int) - 1)) }) (I1.ok.hd hc) ll ⟨_,Heap.get?_push_size _ rfl,rfl,rfl⟩ (pl.isList.at fun o e=>Heap.get?_push_of_some _ e) (by simp only [List.size_toArray]; omega) fun h' tk c kp e=>?_
  have kq:∀ b o,s1.heap.get? b=some o->h'.get? b=some o:=fun b o eb=>kp b o (Nat.ne_of_lt (Heap.lt_size eb)) (Heap.get?_push_of_some _ eb)
  have hsz:s1.heap.objs.size≤(s1.heap.push (revObj a ((its.toArray.size:Int) - 1))).objs.size:=by rw [Heap.size_push]; exact Nat.le_succ _
  exact⟨.ref _,_,I1.laid (t':=tk) kq hsz (show ObjOk X.prog X.w _ h' _ (.lst xs.reverse) from ⟨by rw [List.length_reverse]; exact hz,its.reverse,c,Qeg rv,e⟩),rfl,q _ (I1.hok.fresh hsz)⟩
theorem J8 (hc:X.calm=true) (hm:X.mg "list" = none) (hm2:X.mg "reversed" = none) (he:PE3 ca X e me)
  (hs0:starEach [.Call (.Name "reversed" p2) [e] [] pos2] X.env=[(false,eval (.Call (.Name "reversed" p2) [e] [] pos2) X.env)]:=by rfl) (hg:Gl X "list":=by rfl) (hg2:Gl X "reversed":=by rfl) (hs:starEach [e] X.env=[(false,eval e X.env)]:=by rfl) :
  PE3 ca X (.Call (.Name "list" p) [.Call (.Name "reversed" p2) [e] [] pos2] [] pos) (mOp1 Zv me) :=
 fun pn Φ=>Zo (QeV (X:=xat X ca pn Φ) hs0 hg hm hg2 hm2 (JG he Ql hs pn Φ) hs hc) fun σ H Q hQ=>by
  obtain⟨σ3,g,μ,R,q⟩:=hQ
  refine⟨σ3,g,μ,R,?_⟩
  unfold mOp1 at q
  unfold Qb mNil
  cases hm:me σ3 g with
  | raise _ _=>rw [hm] at q; exact q
  | stuck=>rw [hm] at q; exact q.elim
  | ok d g1 =>
   rw [hm,Res.bind_ok] at q
   rw [Res.bind_ok,Res.bind_ok]
   intro vs H1 μ1 e1 r1 q1
   cases q1 with
   | @cons v _ _ _ h1 h2 =>
    cases h2
    unfold Zv at q
    cases hs1:QE g1 d with
    | none=>rw [hs1] at q; exact q.elim
    | some p1 =>
     obtain⟨b,ds⟩:=p1
     rw [hs1] at q
     cases b with
     | false=>exact q.elim
     | true =>
      obtain⟨a,ws,rfl,sq,dn⟩:=Jv r1 h1 hs1
      have el:∀ l:Addr,(μ1++[l])[g1.length]?=some l:=fun l=>by rw [← r1.len]; simp
      exact⟨a,ws,rfl,sq,fun l hl=>q _ _ (μ1++[l]) (e1.trans (QB hl)) (r1.push hl ⟨_,Qu,dn.rev.mono (QB hl)⟩) (.ref (el l))⟩
end
end L3
end
section
namespace L3
open PySem PySem.Spec PyProof.Rows L2
theorem Qlo {X:Cx} {ca:Nat->Addr} {a b:Expr} {mr:MA} {x y:Str} {px py pt pt2 pos:Pos} {kt k2:Nat} (i j:Nat) (hc:X.calm=true) (hN:X.N.Nodup) (ha:PA3 ca X [a,b] mr) (hi:X.N[i]?=some x:=by rfl) (hj:X.N[j]?=some y:=by rfl) (hij:i≠j:=by decide)
  (hx:X.env.scope.names.lookup x=some .local:=by rfl) (hy:X.env.scope.names.lookup y=some .local:=by rfl)
  (hw:swappedStores [.Tuple [.Name x px,.Name y py] kt pt] (.Tuple [a,b] k2 pt2) X.env=pure (some [x,y]):=by rfl)
  (hs:swapsWithSole [.Tuple [.Name x px,.Name y py] kt pt] (.Tuple [a,b] k2 pt2) pos.line X.env=pure false:=by rfl) :
  PS3 ca X (.Assign [.Tuple [.Name x px,.Name y py] kt pt] (.Tuple [a,b] k2 pt2) pos) (mAsg (YJ [gSet i,gSet j]) (mOpA pTup mr)) :=
 fun pn Φ=>Z4 (QjG (X:=xat X ca pn Φ) hc hN hi hj hij hx hy (ha pn Φ) hw hs) fun E σ H h=>by
  obtain⟨σ3,g,μ,R,p⟩:=h
  refine⟨σ3,g,μ,R,?_⟩
  unfold mAsg mOpA at p
  cases hm:mr σ3 g with
  | ok ds g1 =>
   rw [hm,Res.bind_ok] at p
   unfold pTup at p
   by_cases z:ds.length≤SZ
   ·rw [if_pos z] at p
    dsimp only at p
    match ds,p with
    | [],p=>exact p.elim
    | [d1],p=>exact p.elim
    | [d1,d2],p =>
     intro vs H' μ' e' r' q'
     cases q' with
     | cons q1 q2 =>
      cases q2 with
      | cons q2 q3 =>
       cases q3
       exact⟨_,_,rfl,p _ H' μ' e' (((R.go e' r').set q1 i).set q2 j)⟩
    | d1::d2::d3::r,p=>exact p.elim
   ·rw [if_neg z] at p; exact p.elim
  | raise _ _=>rw [hm] at p; exact RaP.stmt R p
  | stuck=>rw [hm] at p; exact p
end L3
end
section
namespace L3
open PySem
noncomputable def QeW:MS:=(mRet (mAnd (mOp1 (ZP .int) (mVar 0)) (mNot (mOp1 (ZP .bool) (mVar 0)))))
noncomputable def YL:MF:=mDef 1 0 QeW
noncomputable def QeX:MS:=(mRet (mAnd (Qn YL (Qb (mVar 0) mNil)) (Qb1 pLe pLt (mLit (.int 0)) (mVar 0) (mVar 1))))
noncomputable def Zz:MF:=mDef 2 0 QeX
noncomputable def QaN:MS:=(mRet (mAnd (Qn YL (Qb (mVar 0) mNil)) (mOp2 pGe (mVar 0) (mLit (.int 0)))))
noncomputable def QP:MF:=mDef 1 0 QaN
noncomputable def QeY:MS:=(mSeq (mIf (Qh (mOp2 pIs (mVar 0) (mLit .non))) (mRet (mLit (.bl true))) Qy)
 (mSeq (mIf (mOrT (Je (Qh (mOp1 (ZP .tuple) (mVar 0)))) (Qh (mOp2 pNe (mOp1 pLen (mVar 0)) (mLit (.int 3))))) (mRet (mLit (.bl false))) Qy)
 (mRet (mAnd (Qn Zz (Qb (mOp2 pIx (mVar 0) (mLit (.int 0))) (Qb (mVar 2) mNil))) (mAnd (mOp2 (pIn false) (mOp2 pIx (mVar 0) (mLit (.int 1))) (mOpA pTup (Qb (mLit (.str (Str.ofString "l"))) (Qb (mLit (.str (Str.ofString "r"))) mNil)))) (Qn Zz (Qb (mOp2 pIx (mVar 0) (mLit (.int 2))) (Qb (mVar 1) mNil))))))))
noncomputable def Z9:MF:=mDef 3 0 QeY
noncomputable def QU:MS:=(mSeq (mIf (Qh (mOp2 pNe (mOp1 pLen (mVar 3)) (mVar 2))) Yt Qy)
 (mIf (Je (Qh (mOp1 pAll (JP (ZY (mVar 3)) 1 [1,2] (gSet 0) Jb (Qn Z9 (Qb (mVar 0) (Qb (mVar 1) (Qb (mVar 2) mNil)))))))) Yt Qy))
noncomputable def ZA:MS:=(mSeq (mIf (Qh (mOp2 pEq (mOp1 pLen (mVar 0)) (mLit (.int 0)))) Yt Qy)
 (mSeq (mAsg (gSet 1) (mOp1 pLen (mVar 0)))
 (mSeq (mAsg (gSet 2) (mOp1 pLen (mOp2 pIx (mVar 0) (mLit (.int 0)))))
 (mSeq (mIf (Qh (mOp2 pEq (mVar 2) (mLit (.int 0)))) Yt Qy)
 (mFor (ZY (mVar 0)) (gSet 3) QU)))))
noncomputable def ZB:MF:=mDef 1 3 ZA
noncomputable def JI:MS:=(mSeq (mAsg (gSet 2) (mOp1 J6 (JP (ZY (mVar 1)) 1 [] (gSet 0) Jb (mOp1 J6 (mVar 0)))))
 (mSeq (ZE (Qn ZB (Qb (mVar 2) mNil)))
 (QM [11,13] (Str.ofString "table") (mVar 0) (mVar 2))))
noncomputable def Zt:MF:=mDef 2 1 JI
noncomputable def Qbl:MS:=(mRet (mOp1 pLen (ZO [11,13] (Str.ofString "table") (mVar 0))))
noncomputable def JT:MF:=mDef 1 0 Qbl
noncomputable def Qb7:MS:=(mRet (mOp1 pLen (mOp2 pIx (ZO [11,13] (Str.ofString "table") (mVar 0)) (mLit (.int 0)))))
noncomputable def Qaq:MF:=mDef 1 0 Qb7
noncomputable def ZI:MS:=(mSeq (mIf (Qh (mOp2 pLt (mVar 2) (mLit (.int 1)))) QiC Qy)
 (mIf (JO (Qh (mOp2 pGt (mOp1 pLen (mVar 0)) (mLit (.int 0)))) (Qh (mOp2 pEq (mOp2 pIx (mOp2 pIx (mVar 0) (mOp1 pNeg (mLit (.int 1)))) (mLit (.int 0))) (mVar 1)))) (Y7 (mVar 0) (mOp1 pNeg (mLit (.int 1))) (mOpA pTup (Qb (mVar 1) (Qb (mOp2 pAdd (mOp2 pIx (mOp2 pIx (mVar 0) (mOp1 pNeg (mLit (.int 1)))) (mLit (.int 1))) (mVar 2)) mNil)))) (ZE (Z3 (mVar 0) (mOpA pTup (Qb (mVar 1) (Qb (mVar 2) mNil)))))))
noncomputable def YZ:MF:=mDef 3 0 ZI
noncomputable def QaF:MS:=(mSeq (mIf (mOrT (Je (Qh (mOp1 (ZP .tuple) (mVar 0)))) (Qh (mOp2 pNe (mOp1 pLen (mVar 0)) (mLit (.int 2))))) (mRet (mLit (.bl false))) Qy)
 (mRet (mAnd (Qn QP (Qb (mOp2 pIx (mVar 0) (mLit (.int 0))) mNil)) (mAnd (Qn QP (Qb (mOp2 pIx (mVar 0) (mLit (.int 1))) mNil)) (mOp2 pGt (mOp2 pIx (mVar 0) (mLit (.int 1))) (mLit (.int 0)))))))
noncomputable def Z1:MF:=mDef 1 0 QaF
noncomputable def Yl:MS:=(mIf (Qh (mOp2 pEq (mOp2 pIx (mVar 1) (mLit (.int 0))) (mOp2 pIx (mVar 2) (mLit (.int 0))))) Yt Qy)
noncomputable def Jl:MS:=(mSeq (mIf (mOrT (Je (Qh (mOp1 Qc4 (mVar 0)))) (Je (Qh (mOp1 pAll (JP (ZY (mVar 0)) 1 [] (gSet 0) Jb (Qn Z1 (Qb (mVar 0) mNil))))))) Yt Qy)
 (mSeq (mFor (QaC (mVar 0) (Yg (mVar 0) (JD (mLit (.int 1))) ZG)) (YJ [(gSet 1),(gSet 2)]) Yl)
 (mIf (JO (Qh (mOp2 pGt (mOp1 pLen (mVar 0)) (mLit (.int 0)))) (Qh (mOp2 pEq (mOp2 pIx (mOp2 pIx (mVar 0) (mOp1 pNeg (mLit (.int 1)))) (mLit (.int 0))) (mLit (.int 0))))) Yt Qy)))
noncomputable def Yv:MF:=mDef 1 2 Jl
noncomputable def YM:MS:=(mSeq (mIf (mOrT (Je (Qh (mOp1 (ZP .tuple) (mVar 0)))) (Qh (mOp2 pNe (mOp1 pLen (mVar 0)) (mLit (.int 3))))) Yt Qy)
 (mSeq (mIf (Je (Qh (Qn QP (Qb (mOp2 pIx (mVar 0) (mLit (.int 0))) mNil)))) Yt Qy)
 (mSeq (ZE (Qn Yv (Qb (mOp2 pIx (mVar 0) (mLit (.int 1))) mNil)))
 (ZE (Qn Yv (Qb (mOp2 pIx (mVar 0) (mLit (.int 2))) mNil))))))
noncomputable def ZQ:MF:=mDef 1 0 YM
noncomputable def Qho:MS:=(mIf (mOrT (Qh (mOp2 pGt (mOp1 pLen (mVar 0)) (mLit (.int 0)))) (Qh (mOp2 pNe (mVar 1) (mLit (.int 0))))) (ZE (Qn YZ (Qb (mVar 0) (Qb (mVar 1) (Qb (mVar 2) mNil))))) Qy)
noncomputable def QeZ:MF:=mDef 3 0 Qho
noncomputable def Qgi:MS:=(mIf (Qh (mOp2 pGt (mOp1 pLen (mVar 0)) (mLit (.int 0)))) (mSeq (mAsg (gSet 2) (mOp1 pPop (mVar 0)))
 (ZE (Qn QeZ (Qb (mVar 0) (Qb (mOp2 pIx (mVar 2) (mLit (.int 0))) (Qb (mOp2 pSub (mOp2 pIx (mVar 2) (mLit (.int 1))) (mVar 1)) mNil)))))) Qy)
noncomputable def Qbm:MF:=mDef 2 1 Qgi
noncomputable def YC:MS:=(mRet (mIfE (Qh (mOp2 pGt (mOp1 pLen (mVar 0)) (mLit (.int 0)))) (mOp2 pIx (mOp2 pIx (mVar 0) (mOp1 pNeg (mLit (.int 1)))) (mLit (.int 0))) (mLit (.int 0))))
noncomputable def QS:MF:=mDef 1 0 YC
noncomputable def Qcs:MS:=(mSeq (mIf (Qh (mOp2 pNe (Qn QS (Qb (mVar 0) mNil)) (mVar 1))) (mRet (mLit (.int 0))) Qy)
 (mRet (mIfE (Qh (mOp2 pGt (mOp1 pLen (mVar 0)) (mLit (.int 0)))) (mOp2 Qdy (mOp2 pIx (mOp2 pIx (mVar 0) (mOp1 pNeg (mLit (.int 1)))) (mLit (.int 1))) (mVar 2)) (mVar 2))))
noncomputable def Qbn:MF:=mDef 3 0 Qcs
noncomputable def Ym:MS:=(mSeq (QM [11,13] (Str.ofString "table") (mVar 0) (ZO [11,13] (Str.ofString "table") (mVar 1)))
 (mSeq (QM [13] (Str.ofString "state") (mVar 0) (mOp2 pIx (mVar 2) (mLit (.int 0))))
 (mSeq (QM [13] (Str.ofString "left") (mVar 0) (mOp1 Zv (mOp2 pIx (mVar 2) (mLit (.int 1)))))
 (mSeq (QM [13] (Str.ofString "right") (mVar 0) (mOp1 Zv (mOp2 pIx (mVar 2) (mLit (.int 2)))))
 (mSeq (QM [13] (Str.ofString "own") (mVar 0) (Qn QS (Qb (ZO [13] (Str.ofString "right") (mVar 0)) mNil)))
 (mSeq (ZE (Qn Qbm (Qb (ZO [13] (Str.ofString "right") (mVar 0)) (Qb (mLit (.int 1)) mNil))))
 (QM [13] (Str.ofString "moved") (mVar 0) (mLit (.int 0)))))))))
noncomputable def ZJ:MF:=mDef 3 0 Ym
noncomputable def Y8:MS:=(mRet (mOp2 pIx (mOp2 pIx (ZO [11,13] (Str.ofString "table") (mVar 0)) (ZO [13] (Str.ofString "state") (mVar 0))) (ZO [13] (Str.ofString "own") (mVar 0))))
noncomputable def Q3:MF:=mDef 1 0 Y8
noncomputable def Zb:MS:=(mSeq (mAsg (gSet 2) (QbQ 13 (Str.ofString "entry") Q3 (mVar 0) mNil))
 (mSeq (mAsg (gSet 3) (mOp2 pEq (mOp2 pIx (mVar 2) (mLit (.int 1))) (mLit (.str (Str.ofString "r")))))
 (mSeq (mAsg (gSet 4) (mIfE (Qh (mVar 3)) (ZO [13] (Str.ofString "right") (mVar 0)) (ZO [13] (Str.ofString "left") (mVar 0))))
 (mSeq (mAsg (gSet 5) (mIfE (Qh (mVar 3)) (ZO [13] (Str.ofString "left") (mVar 0)) (ZO [13] (Str.ofString "right") (mVar 0))))
 (mSeq (mAsg (gSet 6) (mIfE (Qh (mOp2 pEq (mOp2 pIx (mVar 2) (mLit (.int 2))) (ZO [13] (Str.ofString "state") (mVar 0)))) (mOp2 pAdd (mLit (.int 1)) (Qn Qbn (Qb (mVar 4) (Qb (ZO [13] (Str.ofString "own") (mVar 0)) (Qb (mOp2 pSub (mVar 1) (mLit (.int 1))) mNil))))) (mLit (.int 1))))
 (mSeq (ZE (Qn QeZ (Qb (mVar 5) (Qb (mOp2 pIx (mVar 2) (mLit (.int 0))) (Qb (mVar 6) mNil)))))
 (mSeq (ZE (Qn Qbm (Qb (mVar 4) (Qb (mOp2 pSub (mVar 6) (mLit (.int 1))) mNil))))
 (mSeq (QM [13] (Str.ofString "own") (mVar 0) (Qn QS (Qb (mVar 4) mNil)))
 (mSeq (ZE (Qn Qbm (Qb (mVar 4) (Qb (mLit (.int 1)) mNil))))
 (mSeq (QM [13] (Str.ofString "state") (mVar 0) (mOp2 pIx (mVar 2) (mLit (.int 2))))
 (mSeq (QM [13] (Str.ofString "moved") (mVar 0) (mIfE (Qh (mVar 3)) (mOp2 pAdd (ZO [13] (Str.ofString "moved") (mVar 0)) (mVar 6)) (mOp2 pSub (ZO [13] (Str.ofString "moved") (mVar 0)) (mVar 6))))
 (mRet (mVar 6)))))))))))))
noncomputable def Yn:MF:=mDef 2 5 Zb
noncomputable def YD:MS:=(mSeq (mAsg (gSet 1) (mOp1 QfE (ZO [13] (Str.ofString "right") (mVar 0))))
 (mSeq (ZE (Qn QeZ (Qb (mVar 1) (Qb (ZO [13] (Str.ofString "own") (mVar 0)) (Qb (mLit (.int 1)) mNil)))))
 (mRet (mOpA pTup (Qb (ZO [13] (Str.ofString "state") (mVar 0)) (Qb (mOp1 Zv (ZO [13] (Str.ofString "left") (mVar 0))) (Qb (mOp1 Zv (mVar 1)) mNil)))))))
noncomputable def ZW:MF:=mDef 1 1 YD
noncomputable def Zc:MS:=(mIf (Qh (mOp1 pAny (JP (ZY (mVar 3)) 2 [2] (YJ [(gSet 0),(gSet 1)]) Jb (mOp2 pGe (mVar 0) (mVar 2))))) Yt Qy)
noncomputable def Yw:MS:=(mSeq (ZE (Qn ZQ (Qb (mVar 1) mNil)))
 (mSeq (mIf (Qh (mOp2 pGe (mOp2 pIx (mVar 1) (mLit (.int 0))) (Qn JT (Qb (mVar 0) mNil)))) Yt Qy)
 (mSeq (mAsg (gSet 2) (Qn Qaq (Qb (mVar 0) mNil)))
 (mFor (ZY (Yg (mVar 1) (JD (mLit (.int 1))) ZG)) (gSet 3) Zc))))
noncomputable def ZK:MF:=mDef 2 2 Yw
noncomputable def QJ:MS:=(mSeq (mIf (Qh (mOp2 pGe (mVar 6) (mVar 3))) (QdZ 6 (Qb (mLit (.str (Str.ofString "the run has more leaps than it may have"))) mNil)) Qy)
 (mSeq (mAsg (gSet 5) (mOp2 pAdd (mVar 5) (QbQ 13 (Str.ofString "leap") Yn (mVar 4) (Qb (mOp2 pSub (mVar 2) (mVar 5)) mNil))))
 (mAsg (gSet 6) (mOp2 pAdd (mVar 6) (mLit (.int 1))))))
noncomputable def JU:MS:=(mSeq (ZE (Qn ZK (Qb (mVar 0) (Qb (mVar 1) mNil))))
 (mSeq (mAsg (gSet 4) (QcV 13 ZJ (Qb (mVar 0) (Qb (mVar 1) mNil))))
 (mSeq (mAsg (gSet 5) (mLit (.int 0)))
 (mSeq (mAsg (gSet 6) (mLit (.int 0)))
 (mSeq (QaB (JO (Qh (mOp2 pLt (mVar 5) (mVar 2))) (Qh (mOp2 J4 (QbQ 13 (Str.ofString "entry") Q3 (mVar 4) mNil) (mLit .non)))) QJ)
 (mRet (mOpA pTup (Qb (QbQ 13 (Str.ofString "row") ZW (mVar 4) mNil) (Qb (ZO [13] (Str.ofString "moved") (mVar 4)) (Qb (mVar 5) (Qb (mVar 6) mNil)))))))))))
noncomputable def Y0:MF:=mDef 4 3 JU
noncomputable def Qct:MS:=(mSeq (Y7 (mVar 1) (mLit (.int 0)) (mOp2 pAdd (mOp2 pIx (mVar 1) (mLit (.int 0))) (mLit (.int 1))))
 (mSeq (mAsg (gSet 2) (mIfE (Qh (mOp2 pGt (mOp1 pLen (mVar 0)) (mLit (.int 0)))) (mOp2 pIx (mVar 0) (mOp2 pMod (mOp2 pIx (mVar 1) (mLit (.int 0))) (mOp1 pLen (mVar 0)))) (mLit (.int 0))))
 (mSeq (mAsg (gSet 3) (mOp2 pMod (mOp2 pMul (mOp2 pAdd (mOp2 pAdd (mOp2 pMod (mVar 2) (mLit (.int 2147483647))) (mOp2 pMul (mOp2 pMul (mOp2 pIx (mVar 1) (mLit (.int 0))) (mOp2 pIx (mVar 1) (mLit (.int 0)))) (mLit (.int 7919)))) (mLit (.int 11))) (mLit (.int 48271))) (mLit (.int 2147483647))))
 (mRet (mOp2 pMod (mOp2 pMul (mVar 3) (mVar 3)) (mLit (.int 1999999973)))))))
noncomputable def Zj:MF:=mDef 2 2 Qct
noncomputable def J9 (me:MF):MS:=(mSeq (mIf (mOrT (Qh (mOp1 (ZP .list) (mVar 1))) (Qh (mOp1 (ZP .tuple) (mVar 1)))) (mSeq (mIf (mOrT (Qh (mOp2 pNe (mOp1 (ZP .list) (mVar 0)) (mOp1 (ZP .list) (mVar 1)))) (Qh (mOp2 pNe (mOp1 (ZP .tuple) (mVar 0)) (mOp1 (ZP .tuple) (mVar 1))))) (mRet (mLit (.bl false))) Qy)
 (mRet (mAnd (mOp2 pEq (mOp1 pLen (mVar 0)) (mOp1 pLen (mVar 1))) (mOp1 pAll (JP (QaC (mVar 0) (mVar 1)) 2 [] (YJ [(gSet 0),(gSet 1)]) Jb (Qn me (Qb (mVar 0) (Qb (mVar 1) mNil)))))))) Qy)
 (mSeq (mIf (Qh (mOp2 pIs (mVar 1) (mLit .non))) (mRet (mOp2 pIs (mVar 0) (mLit .non))) Qy)
 (mSeq (mIf (Qh (mOp1 (ZP .str) (mVar 1))) (mRet (mAnd (mOp1 (ZP .str) (mVar 0)) (mOp2 pEq (mVar 0) (mVar 1)))) Qy)
 (mRet (mAnd (mOp1 (ZP .int) (mVar 0)) (mAnd (mNot (mOp1 (ZP .bool) (mVar 0))) (mOp2 pEq (mVar 0) (mVar 1))))))))
noncomputable def ZL:Nat->MF
 | 0=>fun _ _=>.stuck
 | k+1=>mDef 2 0 (J9 (ZL k))
noncomputable def Zd:MS:=(mSeq (mAsg (gSet 8) (Qn Zj (Qb (mVar 0) (Qb (mVar 1) mNil))))
 (mSeq (mAsg (gSet 9) (mOpA pTup (Qb (mOp2 pMod (mOp2 Zp (mVar 8) (mLit (.int 9))) (mVar 3)) (Qb (mOp2 pIx (mLit (.str (Str.ofString "lr"))) (mOp2 pMod (mOp2 Zp (mVar 8) (mLit (.int 100))) (mLit (.int 2)))) (Qb (mOp2 pMod (mOp2 Zp (mVar 8) (mLit (.int 300))) (mVar 2)) mNil)))))
 (mSeq (mIf (Qh (mOp2 pEq (mOp2 pMod (mVar 8) (mLit (.int 9))) (mLit (.int 0)))) (mAsg (gSet 9) (mLit .non)) Qy)
 (ZE (Z3 (mVar 6) (mVar 9))))))
noncomputable def Yx:MS:=(mSeq (mAsg (gSet 6) (mOpA newL mNil))
 (mSeq (mFor (QD (mVar 3)) (gSet 7) Zd)
 (ZE (Z3 (mVar 4) (mVar 6)))))
noncomputable def Qbo:MS:=(mSeq (mAsg (gSet 4) (mOpA newL mNil))
 (mSeq (mFor (QD (mVar 2)) (gSet 5) Yx)
 (mRet (mVar 4))))
noncomputable def Qbp:MF:=mDef 4 6 Qbo
noncomputable def ZR:MS:=(mSeq (mAsg (gSet 2) (Qn Zj (Qb (mVar 0) (Qb (mVar 1) mNil))))
 (mSeq (mIf (JO (Qh (mOp2 pEq (mOp2 pMod (mVar 2) (mLit (.int 3))) (mLit (.int 0)))) (Qh (mOp2 J4 (mOp2 pIx (mOp2 pIx (mVar 5) (mVar 6)) (mVar 7)) (mLit .non)))) (Y7 (mOp2 pIx (mVar 5) (mVar 6)) (mVar 7) (mOpA pTup (Qb (mOp2 pIx (mOp2 pIx (mOp2 pIx (mVar 5) (mVar 6)) (mVar 7)) (mLit (.int 0))) (Qb (mOp2 pIx (mOp2 pIx (mOp2 pIx (mVar 5) (mVar 6)) (mVar 7)) (mLit (.int 1))) (Qb (mVar 6) mNil))))) Qy)
 (mIf (JO (Qh (mOp2 pGt (mOp2 pMod (mOp2 Zp (mVar 2) (mLit (.int 3))) (mLit (.int 7))) (mLit (.int 1)))) (Qh (mOp2 pIs (mOp2 pIx (mOp2 pIx (mVar 5) (mVar 6)) (mVar 7)) (mLit .non)))) (Y7 (mOp2 pIx (mVar 5) (mVar 6)) (mVar 7) (mOpA pTup (Qb (mOp2 pMod (mOp2 Zp (mVar 2) (mLit (.int 30))) (mVar 4)) (Qb (mOp2 pIx (mLit (.str (Str.ofString "lr"))) (mOp2 pMod (mOp2 Zp (mVar 2) (mLit (.int 300))) (mLit (.int 2)))) (Qb (mOp2 pMod (mOp2 Zp (mVar 2) (mLit (.int 600))) (mVar 3)) mNil))))) Qy)))
noncomputable def Zl:MS:=(mFor (QD (mVar 4)) (gSet 7) ZR)
noncomputable def YE:MS:=(mSeq (mAsg (gSet 2) (Qn Zj (Qb (mVar 0) (Qb (mVar 1) mNil))))
 (mSeq (mAsg (gSet 3) (mOp2 pIx (mOpA newL (Qb (mLit (.int 1)) (Qb (mLit (.int 2)) (Qb (mLit (.int 2)) (Qb (mLit (.int 3)) (Qb (mLit (.int 3)) (Qb (mLit (.int 4)) mNil))))))) (mOp2 pMod (mVar 2) (mLit (.int 6)))))
 (mSeq (mAsg (gSet 4) (mOp2 pIx (mOpA newL (Qb (mLit (.int 2)) (Qb (mLit (.int 2)) (Qb (mLit (.int 3)) (Qb (mLit (.int 2)) (Qb (mLit (.int 4)) (Qb (mLit (.int 1)) mNil))))))) (mOp2 pMod (mOp2 Zp (mVar 2) (mLit (.int 6))) (mLit (.int 6)))))
 (mSeq (mIf (Qh (mOp2 pEq (mOp2 pMod (mOp2 Zp (mVar 2) (mLit (.int 36))) (mLit (.int 13))) (mLit (.int 0)))) (mAsg (YJ [(gSet 3),(gSet 4)]) (mOpA pTup (Qb (mLit (.int 5)) (Qb (mLit (.int 8)) mNil)))) Qy)
 (mSeq (mAsg (gSet 5) (Qn Qbp (Qb (mVar 0) (Qb (mVar 1) (Qb (mVar 3) (Qb (mVar 4) mNil))))))
 (mSeq (mFor (QD (mVar 3)) (gSet 6) Zl)
 (mRet (mVar 5))))))))
noncomputable def YF:MF:=mDef 2 6 YE
noncomputable def Qbq:MS:=(mSeq (mIf (mOrT (Qh (mOp2 pEq (mVar 2) (mLit (.int 0)))) (JO (Qh (mOp2 pEq (mVar 1) (mLit (.int 0)))) (Qh (mOp2 pEq (mVar 0) (mOpA newL mNil))))) (mRet (mVar 0)) Qy)
 (mSeq (mIf (JO (Qh (mOp2 pNe (mVar 0) (mOpA newL mNil))) (Qh (mOp2 pEq (mOp2 pIx (mOp2 pIx (mVar 0) (mLit (.int 0))) (mLit (.int 0))) (mVar 1)))) (mRet (mOp2 pAdd (mOpA newL (Qb (mOpA pTup (Qb (mVar 1) (Qb (mOp2 pAdd (mOp2 pIx (mOp2 pIx (mVar 0) (mLit (.int 0))) (mLit (.int 1))) (mVar 2)) mNil))) mNil)) (Yg (mVar 0) (JD (mLit (.int 1))) ZG))) Qy)
 (mRet (mOp2 pAdd (mOpA newL (Qb (mOpA pTup (Qb (mVar 1) (Qb (mVar 2) mNil))) mNil)) (mVar 0)))))
noncomputable def Jm:MF:=mDef 3 0 Qbq
noncomputable def Qdz:MS:=(mSeq (mIf (mOrT (Qh (mOp2 pEq (mVar 0) (mOpA newL mNil))) (Qh (mOp2 pEq (mVar 1) (mLit (.int 0))))) (mRet (mVar 0)) Qy)
 (mSeq (mAsg (YJ [(gSet 2),(gSet 3)]) (mOp2 pIx (mVar 0) (mLit (.int 0))))
 (mRet (mOp2 pAdd (mOp2 pMul (mOpA newL (Qb (mOpA pTup (Qb (mVar 2) (Qb (mOp2 pSub (mVar 3) (mVar 1)) mNil))) mNil)) (mOp1 pInt (mOp2 pGt (mVar 3) (mVar 1)))) (Yg (mVar 0) (JD (mLit (.int 1))) ZG)))))
noncomputable def YG:MF:=mDef 2 2 Qdz
noncomputable def Qar:MS:=(mSeq (mIf (Qh (mOp2 pEq (mVar 0) (mOpA newL mNil))) (mRet (mOp2 pMul (mVar 2) (mOp1 pInt (mOp2 pEq (mVar 1) (mLit (.int 0)))))) Qy)
 (mRet (mOp2 pMul (mOp2 Qdy (mVar 2) (mOp2 pIx (mOp2 pIx (mVar 0) (mLit (.int 0))) (mLit (.int 1)))) (mOp1 pInt (mOp2 pEq (mOp2 pIx (mOp2 pIx (mVar 0) (mLit (.int 0))) (mLit (.int 0))) (mVar 1))))))
noncomputable def ZC:MF:=mDef 3 0 Qar
noncomputable def QaZ:MS:=(mSeq (mAsg (YJ [(gSet 3),(gSet 4),(gSet 5)]) (mVar 1))
 (mSeq (mAsg (gSet 6) (mIfE (Qh (mOp2 pNe (mVar 5) (mOpA newL mNil))) (mOp2 pIx (mOp2 pIx (mVar 5) (mLit (.int 0))) (mLit (.int 0))) (mLit (.int 0))))
 (mSeq (mAsg (gSet 7) (mOp2 pIx (mOp2 pIx (mVar 0) (mVar 3)) (mVar 6)))
 (mSeq (mIf (Qh (mOp2 pIs (mVar 7) (mLit .non))) (mRet (mLit .non)) Qy)
 (mSeq (mAsg (YJ [(gSet 8),(gSet 9),(gSet 10)]) (mVar 7))
 (mSeq (mIf (Qh (mOp2 pEq (mVar 9) (mLit (.str (Str.ofString "r"))))) (mSeq (mAsg (gSet 11) (mIfE (Qh (mOp2 pEq (mVar 10) (mVar 3))) (Qn ZC (Qb (mVar 5) (Qb (mVar 6) (Qb (mVar 2) mNil)))) (mLit (.int 1))))
 (mSeq (mAsg (gSet 4) (Qn Jm (Qb (mVar 4) (Qb (mVar 8) (Qb (mVar 11) mNil)))))
 (mRet (mOpA pTup (Qb (mOpA pTup (Qb (mVar 10) (Qb (mVar 4) (Qb (Qn YG (Qb (mVar 5) (Qb (mVar 11) mNil))) mNil)))) (Qb (mVar 11) (Qb (mVar 11) mNil))))))) Qy)
 (mSeq (mAsg (gSet 11) (mIfE (Qh (mOp2 pEq (mVar 10) (mVar 3))) (mOp2 pAdd (mLit (.int 1)) (Qn ZC (Qb (mVar 4) (Qb (mVar 6) (Qb (mOp2 pSub (mVar 2) (mLit (.int 1))) mNil))))) (mLit (.int 1))))
 (mSeq (mAsg (gSet 5) (Qn Jm (Qb (Qn YG (Qb (mVar 5) (Qb (mLit (.int 1)) mNil))) (Qb (mVar 8) (Qb (mVar 11) mNil)))))
 (mSeq (mAsg (gSet 4) (Qn YG (Qb (mVar 4) (Qb (mOp2 pSub (mVar 11) (mLit (.int 1))) mNil))))
 (mSeq (mAsg (gSet 12) (mIfE (Qh (mOp2 pNe (mVar 4) (mOpA newL mNil))) (mOp2 pIx (mOp2 pIx (mVar 4) (mLit (.int 0))) (mLit (.int 0))) (mLit (.int 0))))
 (mRet (mOpA pTup (Qb (mOpA pTup (Qb (mVar 10) (Qb (Qn YG (Qb (mVar 4) (Qb (mLit (.int 1)) mNil))) (Qb (Qn Jm (Qb (mVar 5) (Qb (mVar 12) (Qb (mLit (.int 1)) mNil)))) mNil)))) (Qb (mVar 11) (Qb (mOp1 pNeg (mVar 11)) mNil)))))))))))))))
noncomputable def Qa0:MF:=mDef 3 10 QaZ
noncomputable def QF:MS:=(mSeq (mAsg (gSet 7) (Qn Qa0 (Qb (mVar 0) (Qb (mVar 1) (Qb (mOp2 pSub (mVar 2) (mVar 4)) mNil)))))
 (mSeq (mIf (Qh (mOp2 pIs (mVar 7) (mLit .non))) (mRet (mOpA pTup (Qb (mVar 1) (Qb (mVar 5) (Qb (mVar 4) (Qb (mVar 6) mNil)))))) Qy)
 (mSeq (mIf (Qh (mOp2 pEq (mVar 6) (mVar 3))) (mRet (mLit .non)) Qy)
 (mSeq (mAsg (gSet 1) (mOp2 pIx (mVar 7) (mLit (.int 0))))
 (mSeq (mAsg (YJ [(gSet 4),(gSet 5)]) (mOpA pTup (Qb (mOp2 pAdd (mVar 4) (mOp2 pIx (mVar 7) (mLit (.int 1)))) (Qb (mOp2 pAdd (mVar 5) (mOp2 pIx (mVar 7) (mLit (.int 2)))) mNil))))
 (mAsg (gSet 6) (mOp2 pAdd (mVar 6) (mLit (.int 1)))))))))
noncomputable def Qbr:MS:=(mSeq (mAsg (YJ [(gSet 4),(gSet 5),(gSet 6)]) (mOpA pTup (Qb (mLit (.int 0)) (Qb (mLit (.int 0)) (Qb (mLit (.int 0)) mNil)))))
 (mSeq (QaB (Qh (mOp2 pLt (mVar 4) (mVar 2))) QF)
 (mRet (mOpA pTup (Qb (mVar 1) (Qb (mVar 5) (Qb (mVar 4) (Qb (mVar 6) mNil))))))))
noncomputable def Jn:MF:=mDef 4 4 Qbr
noncomputable def Qhp:MS:=(mSeq (mAsg (gSet 4) (mLit .non))
 (mSeq (mTry (mAsg (gSet 4) (Qn Y0 (Qb (mVar 0) (Qb (mVar 1) (Qb (mVar 2) (Qb (mVar 3) mNil)))))) [⟨[6],[0,1,5],none,(mAsg (gSet 4) (mLit (.str (Str.ofString "too long"))))⟩])
 (mRet (mVar 4))))
noncomputable def Y1:MF:=mDef 4 1 Qhp
noncomputable def Qas:MS:=(mAsg (gSet 4) (mOp2 pMul (mVar 4) (mLit (.int 10))))
noncomputable def QdA:MS:=(mSeq (mAsg (gSet 2) (Qn Zj (Qb (mVar 0) (Qb (mVar 1) mNil))))
 (mSeq (mAsg (gSet 3) (mIfE (Qh (mOp2 pGt (mOp1 pLen (mVar 0)) (mLit (.int 0)))) (mOp2 pIx (mVar 0) (mOp2 pMod (mOp2 pIx (mVar 1) (mLit (.int 0))) (mOp1 pLen (mVar 0)))) (mLit (.int 0))))
 (mSeq (mAsg (gSet 4) (mLit (.int 10)))
 (mSeq (mFor (QD (mOp2 pMod (mOp2 Zp (mVar 2) (mLit (.int 7))) (mLit (.int 50)))) (gSet 5) Qas)
 (mRet (mOp2 pAdd (mLit (.int 1)) (mOp2 pMod (mOp2 pAdd (mOp2 pMod (mVar 3) (mOp2 pPow (mLit (.int 10)) (mLit (.int 50)))) (mOp2 pMul (mVar 2) (mOp2 pPow (mLit (.int 10)) (mLit (.int 40))))) (mVar 4))))))))
noncomputable def JV:MF:=mDef 2 4 QdA
noncomputable def Zw:MS:=(mSeq (mAsg (gSet 6) (Qn Zj (Qb (mVar 0) (Qb (mVar 1) mNil))))
 (mSeq (mAsg (gSet 7) (mOp2 pMod (mVar 6) (mVar 2)))
 (mSeq (mAsg (gSet 8) (mOp2 pAdd (mLit (.int 1)) (mOp2 pMod (mOp2 Zp (mVar 6) (mLit (.int 8))) (mLit (.int 4)))))
 (mSeq (mIf (Qh (mOp2 pEq (mOp2 pMod (mOp2 Zp (mVar 6) (mLit (.int 32))) (mLit (.int 3))) (mLit (.int 0)))) (mAsg (gSet 8) (Qn JV (Qb (mVar 0) (Qb (mVar 1) mNil)))) Qy)
 (mIf (Qh (mOp2 pNe (mVar 7) (mVar 4))) (mSeq (ZE (Z3 (mVar 3) (mOpA pTup (Qb (mVar 7) (Qb (mVar 8) mNil)))))
 (mAsg (gSet 4) (mVar 7))) Qy)))))
noncomputable def Y2:MS:=(mSeq (mAsg (gSet 3) (mOpA newL mNil))
 (mSeq (mAsg (gSet 4) (mLit .non))
 (mSeq (mFor (QD (mOp2 pMod (Qn Zj (Qb (mVar 0) (Qb (mVar 1) mNil))) (mLit (.int 5)))) (gSet 5) Zw)
 (mSeq (mIf (Qh (mOp2 pEq (mVar 4) (mLit (.int 0)))) (ZE (mOp1 pPop (mVar 3))) Qy)
 (mRet (mVar 3))))))
noncomputable def Z8:MF:=mDef 3 6 Y2
noncomputable def Qbs:MS:=(mSeq (mAsg (gSet 5) (Qn Y1 (Qb (mVar 0) (Qb (mVar 1) (Qb (mVar 3) (Qb (mLit (.int 50)) mNil))))))
 (mSeq (mIf (mOrT (Qh (mOp2 pEq (mVar 5) (mLit (.str (Str.ofString "too long"))))) (mOrT (Qh (mOp2 pIs (mVar 5) (mLit .non))) (Qh (mOp2 pGt (mOp2 pIx (mVar 5) (mLit (.int 2))) (mVar 3))))) (mRet (mLit (.bl false))) Qy)
 (mSeq (mAsg (gSet 6) (Qn Y1 (Qb (mVar 0) (Qb (mOp2 pIx (mVar 5) (mLit (.int 0))) (Qb (mOp2 pSub (mVar 2) (mVar 3)) (Qb (mLit (.int 50)) mNil))))))
 (mSeq (mIf (mOrT (Qh (mOp2 pEq (mVar 6) (mLit (.str (Str.ofString "too long"))))) (Qh (mOp2 pIs (mVar 6) (mLit .non)))) (mRet (mLit (.bl false))) Qy)
 (mSeq (mIf (Je (Qh (Qn (ZL 6) (Qb (mOpA pTup (Qb (mOp2 pIx (mVar 6) (mLit (.int 0))) (Qb (mOp2 pAdd (mOp2 pIx (mVar 5) (mLit (.int 1))) (mOp2 pIx (mVar 6) (mLit (.int 1)))) (Qb (mOp2 pAdd (mOp2 pIx (mVar 5) (mLit (.int 2))) (mOp2 pIx (mVar 6) (mLit (.int 2)))) mNil)))) (Qb (Yg (mVar 4) ZG (JD (mLit (.int 3)))) mNil))))) (mRet (mLit (.bl false))) Qy)
 (mRet (mOp2 (pIn false) (mOp2 pAdd (mOp2 pIx (mVar 5) (mLit (.int 3))) (mOp2 pIx (mVar 6) (mLit (.int 3)))) (mOpA pTup (Qb (mOp2 pIx (mVar 4) (mLit (.int 3))) (Qb (mOp2 pAdd (mOp2 pIx (mVar 4) (mLit (.int 3))) (mLit (.int 1))) mNil))))))))))
noncomputable def Qaa:MF:=mDef 5 2 Qbs
noncomputable def Qbt:MS:=(mSeq (mAsg (gSet 2) (Qn YF (Qb (mVar 0) (Qb (mVar 1) mNil))))
 (mSeq (mAsg (gSet 3) (QcV 11 Zt (Qb (mVar 2) mNil)))
 (mSeq (mAsg (gSet 4) (mOp1 pLen (mOp2 pIx (mVar 2) (mLit (.int 0)))))
 (mSeq (mAsg (gSet 5) (mOp2 pMod (Qn Zj (Qb (mVar 0) (Qb (mVar 1) mNil))) (mOp1 pLen (mVar 2))))
 (mSeq (mAsg (gSet 6) (mOpA pTup (Qb (mVar 5) (Qb (Qn Z8 (Qb (mVar 0) (Qb (mVar 1) (Qb (mVar 4) mNil)))) (Qb (Qn Z8 (Qb (mVar 0) (Qb (mVar 1) (Qb (mVar 4) mNil)))) mNil)))))
 (mSeq (mAsg (gSet 7) (Qn Zj (Qb (mVar 0) (Qb (mVar 1) mNil))))
 (mSeq (mAsg (gSet 8) (Qn JV (Qb (mVar 0) (Qb (mVar 1) mNil))))
 (mSeq (mIf (Qh (mOp2 pEq (mOp2 pMod (mVar 7) (mLit (.int 4))) (mLit (.int 0)))) (mAsg (gSet 8) (mOp2 pMod (mOp2 Zp (mVar 7) (mLit (.int 4))) (mLit (.int 30)))) Qy)
 (mSeq (mAsg (gSet 9) (mOp2 pMod (mOp2 Zp (mVar 7) (mLit (.int 120))) (mLit (.int 41))))
 (mSeq (mAsg (gSet 10) (Qn Jn (Qb (mVar 2) (Qb (mVar 6) (Qb (mVar 8) (Qb (mVar 9) mNil))))))
 (mSeq (mAsg (gSet 11) (Qn Y1 (Qb (mVar 3) (Qb (mVar 6) (Qb (mVar 8) (Qb (mVar 9) mNil))))))
 (mSeq (mIf (Qh (mOp2 pIs (mVar 10) (mLit .non))) (mRet (mOp2 pEq (mVar 11) (mLit (.str (Str.ofString "too long"))))) Qy)
 (mSeq (mIf (Je (Qh (Qn (ZL 6) (Qb (mVar 11) (Qb (mVar 10) mNil))))) (mRet (mLit (.bl false))) Qy)
 (mRet (Qn Qaa (Qb (mVar 3) (Qb (mVar 6) (Qb (mVar 8) (Qb (mOp2 pMod (Qn JV (Qb (mVar 0) (Qb (mVar 1) mNil))) (mOp2 pAdd (mVar 8) (mLit (.int 1)))) (Qb (mVar 10) mNil))))))))))))))))))))
noncomputable def Qbu:MF:=mDef 2 10 Qbt
noncomputable def Qei:MS:=(mIf (Je (Qh (Qn Qbu (Qb (mVar 0) (Qb (mVar 1) mNil))))) (mRet (mLit (.bl false))) Qy)
noncomputable def Qlp:MS:=(mSeq (mAsg (gSet 1) (mOpA newL (Qb (mLit (.int 0)) mNil)))
 (mSeq (mFor (QD (mOp2 pAdd (mLit (.int 1)) (mOp2 Zp (mOp1 pLen (Yg (mVar 0) ZG (JD (mLit (.int 63))))) (mLit (.int 32))))) (gSet 2) Qei)
 (mRet (mLit (.bl true)))))
noncomputable def Qhq:MF:=mDef 1 2 Qlp
end L3
end
section
namespace L3
open PySem
structure Keeps (S:List Nat) (g g':G):Prop where
 len:g.length≤g'.length
 at':∀ n o,n∉S->g[n]?=some o->g'[n]?=some o
theorem Keeps.refl {S:List Nat} {g:G}:Keeps S g g:=⟨Nat.le_refl _,fun _ _ _ h=>h⟩
theorem Keeps.trans {S:List Nat} {g g1 g2:G} (a:Keeps S g g1) (b:Keeps S g1 g2):Keeps S g g2:=⟨Nat.le_trans a.len b.len,fun n o h e=>b.at' n o h (a.at' n o h e)⟩
theorem Keeps.mono {S T:List Nat} {g g1:G} (a:Keeps S g g1) (h:∀ n∈S,n∈T):Keeps T g g1:=⟨a.len,fun n o q e=>a.at' n o (fun z=>q (h n z)) e⟩
theorem Keeps.all {S:List Nat} {g g1:G} (a:Keeps [] g g1):Keeps S g g1:=a.mono (by simp)
theorem Keeps.push {S:List Nat} {g:G} (o:GO):Keeps S g (g++[o]):=⟨by simp,fun n u _ e=>by
 have hl:n<g.length:=(List.getElem?_eq_some_iff.mp e).1
 rw [List.getElem?_append_left hl]; exact e⟩
theorem Keeps.set {g:G} (n:Nat) (o:GO):Keeps [n] g (g.set n o):=⟨by simp,fun m u h e=>by
 rw [List.getElem?_set_ne (fun z=>h (by simp [z]))]; exact e⟩
structure KeepsN (k:Nat) (S:List Nat) (g g':G):Prop where
 len:g.length≤g'.length
 at':∀ n o,n<k->n∉S->g[n]?=some o->g'[n]?=some o
theorem KeepsN.refl {k:Nat} {S:List Nat} {g:G}:KeepsN k S g g:=⟨Nat.le_refl _,fun _ _ _ _ h=>h⟩
theorem KeepsN.trans {k:Nat} {S:List Nat} {g g1 g2:G} (a:KeepsN k S g g1) (b:KeepsN k S g1 g2):KeepsN k S g g2:=⟨Nat.le_trans a.len b.len,fun n o l h e=>b.at' n o l h (a.at' n o l h e)⟩
theorem Keeps.n {k:Nat} {S T:List Nat} {g g1:G} (a:Keeps S g g1) (h:∀ n∈S,n<k->n∈T):KeepsN k T g g1:=⟨a.len,fun n o l q e=>a.at' n o (fun z=>q (h n z l)) e⟩
theorem KeepsN.mono {j k:Nat} {S T:List Nat} {g g1:G} (a:KeepsN k S g g1) (hj:j≤k) (h:∀ n∈S,n<j->n∈T):KeepsN j T g g1:=⟨a.len,fun n o l q e=>a.at' n o (by omega) (fun z=>q (h n z l)) e⟩
theorem KeepsN.keeps {S:List Nat} {g g1:G} (a:KeepsN g.length S g g1):Keeps S g g1:=⟨a.len,fun n o q e=>a.at' n o (List.getElem?_eq_some_iff.mp e).1 q e⟩
theorem QN {g:G} (o:GO):(g++[o])[g.length]?=some o:=by simp
theorem YN {g:G} {n:Nat} {o:GO} (h:g[n]?=some o):n<g.length:=(List.getElem?_eq_some_iff.mp h).1
theorem QG {g:G} {n:Nat} {o u:GO} (h:g[n]?=some o):(g.set n u)[n]?=some u:=by rw [List.getElem?_set_self (YN h)]
noncomputable def Qhr:Out->Prop
 | .rt _ _=>True
 | .raise _ _ _=>True
 | .stuck=>True
 | _=>False
theorem Qab {src:Src} {t:MG} {body:MS} {n:Nat} (I:Nat->S3->G->Prop) (R:Out->Prop)
  (step:∀ i σ g,i<n->I i σ g->∃ d σ1,src.at' g i=some (some d)∧t d σ=some σ1∧((∃ σ2 g2,(body σ1 g=.nx σ2 g2∨body σ1 g=.ct σ2 g2)∧I (i+1) σ2 g2)∨(Qhr (body σ1 g)∧R (body σ1 g))))
  (stop:∀ σ g,I n σ g->src.at' g n=some none):∀(f i:Nat) (σ:S3) (g:G),n - i<f->i≤n->I i σ g->(∃ σ' g',forL src t body f i σ g=.nx σ' g'∧I n σ' g')∨(Qhr (forL src t body f i σ g)∧R (forL src t body f i σ g))
 | 0,_,_,_,h,_,_=>by omega
 | f+1,i,σ,g,hf,hi,h=>by
  unfold forL
  by_cases e:i=n
  ·subst e
   rw [stop σ g h]
   exact .inl ⟨σ,g,rfl,h⟩
  ·obtain⟨d,σ1,h1,h2,h3⟩:=step i σ g (by omega) h
   rw [h1]
   dsimp only
   rw [h2]
   dsimp only
   rcases h3 with⟨σ2,g2,h3 | h3,h4⟩ | ⟨h3,h4⟩
   ·rw [h3]; exact Qab I R step stop f (i+1) σ2 g2 (by omega) (by omega) h4
   ·rw [h3]; exact Qab I R step stop f (i+1) σ2 g2 (by omega) (by omega) h4
   ·cases hb:body σ1 g with
    | rt d g'=>rw [hb] at h4; exact .inr ⟨trivial,h4⟩
    | raise x σ' g'=>rw [hb] at h4; exact .inr ⟨trivial,h4⟩
    | nx _ _=>rw [hb] at h3; exact h3.elim
    | bk _ _=>rw [hb] at h3; exact h3.elim
    | ct _ _=>rw [hb] at h3; exact h3.elim
    | stuck=>rw [hb] at h4; exact .inr ⟨trivial,h4⟩
theorem Yo {t:MG} {body:MS} {lo:Int} {n:Nat} {σ:S3} {g:G} (I:Nat->S3->G->Prop) (h0:I 0 σ g)
  (step:∀ i σ g,i<n->I i σ g->∃ σ1 σ2 g2,t (.int (lo+i)) σ=some σ1∧body σ1 g=.nx σ2 g2∧I (i+1) σ2 g2):∃ σ' g',forL (Q8 lo n) t body (n+1) 0 σ g=.nx σ' g'∧I n σ' g':=by
 have:=Qab (src:=Q8 lo n) (t:=t) (body:=body) (n:=n) I (fun _=>False) (fun i σ g hi h=>by
  obtain⟨σ1,σ2,g2,a,b,c⟩:=step i σ g hi h
  exact⟨.int (lo+i),σ1,by simp [Q8,hi],a,.inl ⟨σ2,g2,.inl b,c⟩⟩) (fun σ g _=>by simp [Q8]) (n+1) 0 σ g (by omega) (by omega) h0
 rcases this with h | h
 ·exact h
 ·exact h.2.elim
theorem Qc5 {t:MG} {body:MS} {ds:List D} {σ:S3} {g:G} (I:Nat->S3->G->Prop) (R:Out->Prop) (h0:I 0 σ g)
  (step:∀ i d σ g,ds[i]?=some d->I i σ g->∃ σ1,t d σ=some σ1∧((∃ σ2 g2,body σ1 g=.nx σ2 g2∧I (i+1) σ2 g2)∨(Qhr (body σ1 g)∧R (body σ1 g)))) :
  (∃ σ' g',forL ⟨fun _ i=>some ds[i]?,ds.length⟩ t body (ds.length+1) 0 σ g=.nx σ' g'∧I ds.length σ' g')∨(Qhr (forL ⟨fun _ i=>some ds[i]?,ds.length⟩ t body (ds.length+1) 0 σ g)∧R (forL ⟨fun _ i=>some ds[i]?,ds.length⟩ t body (ds.length+1) 0 σ g)) :=
 Qab (src:=⟨fun _ i=>some ds[i]?,ds.length⟩) (t:=t) (body:=body) (n:=ds.length) I R (fun i σ g hi h=>by
  obtain⟨σ1,a,b⟩:=step i ds[i] σ g (by simp [hi]) h
  refine⟨ds[i],σ1,by simp [hi],a,?_⟩
  rcases b with⟨σ2,g2,b,c⟩ | b
  ·exact .inl ⟨σ2,g2,.inl b,c⟩
  ·exact .inr b) (fun σ g _=>by simp) (ds.length+1) 0 σ g (by omega) (by omega) h0
theorem QiX {src:Src} {t:MG} {body:MS} {n:Nat} {σ:S3} {g:G} (hn:src.top=n) (I:Nat->S3->G->Prop) (h0:I 0 σ g)
  (step:∀ i σ g,i<n->I i σ g->∃ d σ1 σ2 g2,src.at' g i=some (some d)∧t d σ=some σ1∧body σ1 g=.nx σ2 g2∧I (i+1) σ2 g2)
  (stop:∀ σ g,I n σ g->src.at' g n=some none):∃ σ' g',forL src t body (src.top+1) 0 σ g=.nx σ' g'∧I n σ' g':=by
 rw [hn]
 have:=Qab (src:=src) (t:=t) (body:=body) (n:=n) I (fun _=>False) (fun i σ g hi h=>by
  obtain⟨d,σ1,σ2,g2,a,b,c,e⟩:=step i σ g hi h
  exact⟨d,σ1,a,b,.inl ⟨σ2,g2,.inl c,e⟩⟩) stop (n+1) 0 σ g (by omega) (by omega) h0
 rcases this with h | h
 ·exact h
 ·exact h.2.elim
theorem YO {src:Src} {t:MG} {c:MT} {e:ME} {n:Nat} (I:Nat->S3->G->List D->Prop)
  (step:∀ i σ g acc,i<n->I i σ g acc->∃ d σ1 g1,src.at' g i=some (some d)∧t d σ=some σ1∧((∃ y g2,c σ1 g=.ok true g1∧e σ1 g1=.ok y g2∧I (i+1) σ1 g2 (acc++[y]))∨(c σ1 g=.ok false g1∧I (i+1) σ1 g1 acc)))
  (stop:∀ σ g acc,I n σ g acc->src.at' g n=some none):∀(f i:Nat) (σ:S3) (g:G) (acc:List D),n - i<f->i≤n->I i σ g acc->∃ ds σ' g',Ja src t c e f i σ g acc=.ok ds g'∧I n σ' g' ds
 | 0,_,_,_,_,h,_,_=>by omega
 | f+1,i,σ,g,acc,hf,hi,h=>by
  unfold Ja
  by_cases q:i=n
  ·subst q
   rw [stop σ g acc h]
   exact⟨acc,σ,g,rfl,h⟩
  ·obtain⟨d,σ1,g1,h1,h2,h3⟩:=step i σ g acc (by omega) h
   rw [h1]
   dsimp only
   rw [h2]
   dsimp only
   rcases h3 with⟨y,g2,h3,h4,h5⟩ | ⟨h3,h5⟩
   ·rw [h3]; dsimp only; rw [if_pos rfl,h4]; exact YO I step stop f (i+1) σ1 g2 _ (by omega) (by omega) h5
   ·rw [h3]; dsimp only; rw [if_neg Bool.false_ne_true]; exact YO I step stop f (i+1) σ1 g1 _ (by omega) (by omega) h5
theorem Qe0 {ds:List D} {e:ME} {no:Nat} {σ:S3} {g:G} {f:D->D} (hz:ds.length≤SZ) (he:∀ d∈ds,∀ g1,Keeps [] g g1->∃ g2,e ((List.replicate (no+1) none++σ).set 0 (some d)) g1=.ok (f d) g2∧Keeps [] g1 g2) :
  ∃ g',Ja ⟨fun _ i=>some ds[i]?,ds.length⟩ (gSet 0) Jb e (ds.length+1) 0 (List.replicate (no+1) none++σ) g []=.ok (ds.map f) g'∧Keeps [] g g':=by
 obtain⟨xs,σ',g',h1,h2,h3,h4⟩:=YO (src:=⟨fun _ i=>some ds[i]?,ds.length⟩) (t:=gSet 0) (c:=Jb) (e:=e) (n:=ds.length)
  (fun i σ' g1 acc=>acc=(ds.take i).map f∧Keeps [] g g1∧∃ u,σ'=(List.replicate (no+1) none++σ).set 0 u) (fun i σ' g1 acc hi h=>by
   obtain⟨h1,h2,u,h3⟩:=h
   obtain⟨g2,k1,k2⟩:=he ds[i] (List.getElem_mem hi) g1 h2
   refine⟨ds[i],_,g1,by simp [hi],rfl,.inl ⟨f ds[i],g2,rfl,?_,?_,h2.trans k2,some ds[i],?_⟩⟩
   ·subst h3; rw [List.set_set]; exact k1
   ·rw [h1,List.take_succ_eq_append_getElem hi,List.map_append]; rfl
   ·subst h3; rw [List.set_set]) (fun σ g acc _=>by simp) (ds.length+1) 0 (List.replicate (no+1) none++σ) g [] (by omega) (by omega) ⟨by simp,.refl,none,by simp [List.replicate_succ]⟩
 refine⟨g',?_,h3⟩
 rw [h1,h2,List.take_length]
end L3
end
section
namespace L3
open PySem
noncomputable def Qac (d:D) (n:Int):Bool:=match d with
 | .int i=>decide (0≤i∧i<n)
 | _=>false
noncomputable def Qkw:D->Bool
 | .int _=>true
 | _=>false
theorem Qbv (d:D) (n:Int) (g:G) (t:Ty) (_:tyOf g d=some t) (hp:Qkw d=true:=by rfl):Zz [d,.int n] g=.ok (.bl (Qac d n)) g:=by
 cases d with
 | int i =>
  have c:Qb1 pLe pLt (mLit (.int 0)) (mVar 0) (mVar 1) [some (.int i),some (.int n)] g=.ok (.bl (decide (0≤i∧i<n))) g:=by
   unfold Qb1
   rw [show mLit (D.int 0) [some (D.int i),some (D.int n)] g=.ok (.int 0) g from rfl,Res.bind_ok,show mVar 0 [some (D.int i),some (D.int n)] g=.ok (.int i) g from rfl,Res.bind_ok,show pLe (.int 0) (.int i) g=.ok (.bl (decide (0≤i))) g from rfl,Res.bind_ok]
   by_cases h0:0≤i
   ·rw [decide_eq_true h0]
    show Res.ok (D.bl (decide (i<n))) g=_
    by_cases h1:i<n
    ·rw [decide_eq_true h1,decide_eq_true ⟨h0,h1⟩]
    ·rw [decide_eq_false h1,decide_eq_false fun z=>h1 z.2]
   ·rw [decide_eq_false h0,decide_eq_false fun z=>h0 z.1]
  have a1:Qn YL (Qb (mVar 0) mNil) [some (.int i),some (.int n)] g=.ok (.bl true) g:=rfl
  show(match mRet (mAnd (Qn YL (Qb (mVar 0) mNil)) (Qb1 pLe pLt (mLit (.int 0)) (mVar 0) (mVar 1))) [some (.int i),some (.int n)] g with
   | .nx _ g'=>Res.ok D.non g'
   | .rt d g'=>.ok d g'
   | .raise e _ g'=>.raise e g'
   | _=>.stuck)=_
  unfold mRet mAnd
  rw [a1,Res.bind_ok]
  dsimp only
  rw [if_pos rfl,c]
  rfl
 | _=>cases hp
theorem s_l:Str.ofString "l" = ⟨#[108]⟩:=by decide +kernel
theorem s_r:Str.ofString "r" = ⟨#[114]⟩:=by decide +kernel
noncomputable def wayD:D->Bool
 | .str s=>s == ⟨#[108]⟩ || s == ⟨#[114]⟩
 | _=>false
noncomputable def entD (d:D) (states signs:Int):Bool:=match d with
 | .non=>true
 | .tup [a,b,c]=>Qac a signs && wayD b && Qac c states
 | _=>false
noncomputable def thingD (_:G) (d:D):Prop:=d=.non∨∃(i j:Int) (w:Str),d=.tup [.int i,.str w,.int j]
theorem QiY (s:Str) (g:G):pIn false (.str s) (.tup [.str ⟨#[108]⟩,.str ⟨#[114]⟩]) g=.ok (.bl (wayD (.str s))) g:=by
 show Res.ok (D.bl ((⟨#[108]⟩ == s) || ((⟨#[114]⟩ == s) || false))) g=.ok (.bl ((s == ⟨#[108]⟩) || (s == ⟨#[114]⟩))) g
 rw [show((⟨#[108]⟩:Str) == s)=(s == ⟨#[108]⟩) from BEq.comm,show((⟨#[114]⟩:Str) == s)=(s == ⟨#[114]⟩) from BEq.comm,Bool.or_false]
theorem QdB (d:D) (states signs:Int) (g:G) (h:thingD g d):Z9 [d,.int states,.int signs] g=.ok (.bl (entD d states signs)) g:=by
 rcases h with rfl | ⟨i,j,w,rfl⟩
 ·rfl
 ·have a1:Qn Zz (Qb (mOp2 pIx (mVar 0) (mLit (.int 0))) (Qb (mVar 2) mNil)) [some (.tup [.int i,.str w,.int j]),some (.int states),some (.int signs)] g=.ok (.bl (Qac (.int i) signs)) g:=Qbv (.int i) signs g .int rfl
  have a3:Qn Zz (Qb (mOp2 pIx (mVar 0) (mLit (.int 2))) (Qb (mVar 1) mNil)) [some (.tup [.int i,.str w,.int j]),some (.int states),some (.int signs)] g=.ok (.bl (Qac (.int j) states)) g:=Qbv (.int j) states g .int rfl
  have a2:mOp2 (pIn false) (mOp2 pIx (mVar 0) (mLit (.int 1))) (mOpA pTup (Qb (mLit (.str (Str.ofString "l"))) (Qb (mLit (.str (Str.ofString "r"))) mNil))) [some (.tup [.int i,.str w,.int j]),some (.int states),some (.int signs)] g=.ok (.bl (wayD (.str w))) g:=by
   rw [s_l,s_r]; exact QiY w g
  show(match (mRet (mAnd (Qn Zz (Qb (mOp2 pIx (mVar 0) (mLit (.int 0))) (Qb (mVar 2) mNil))) (mAnd (mOp2 (pIn false) (mOp2 pIx (mVar 0) (mLit (.int 1))) (mOpA pTup (Qb (mLit (.str (Str.ofString "l"))) (Qb (mLit (.str (Str.ofString "r"))) mNil)))) (Qn Zz (Qb (mOp2 pIx (mVar 0) (mLit (.int 2))) (Qb (mVar 1) mNil)))))) [some (.tup [.int i,.str w,.int j]),some (.int states),some (.int signs)] g with
   | .nx _ g'=>Res.ok D.non g'
   | .rt d g'=>.ok d g'
   | .raise e _ g'=>.raise e g'
   | _=>.stuck)=.ok (.bl (Qac (.int i) signs && wayD (.str w) && Qac (.int j) states)) g
  unfold mRet mAnd
  rw [a1,Res.bind_ok]
  dsimp only
  cases Qac (.int i) signs
  ·rfl
  ·rw [if_pos rfl,a2,Res.bind_ok]
   dsimp only
   cases wayD (.str w)
   ·rfl
   ·rw [if_pos rfl,a3]; rfl
end L3
end
section
namespace L3
open PySem
theorem Keeps.ty {g g1:G} (k:Keeps [] g g1) {d:D} {t:Ty} (h:tyOf g d=some t):tyOf g1 d=some t:=by
 cases d with
 | ref n =>
  unfold tyOf at h ⊢
  dsimp only at h ⊢
  cases hg:g[n]? with
  | none=>rw [hg] at h; cases h
  | some o=>rw [hg] at h; rw [k.at' n o (by simp) hg]; exact h
 | _=>exact h
theorem thingD.mono {g g1:G} {d:D} (_:Keeps [] g g1) (h:thingD g d):thingD g1 d:=h
theorem Qej {α:Type} (f:α->Bool):∀ ts:List α,allB (ts.map fun d=>D.bl (f d))=some (ts.all f)
 | []=>rfl
 | t::ts=>by simp [allB,Qej f ts]
noncomputable def Yp (n m:Nat) (r:List D):Bool:=r.length == m && r.all fun d=>entD d n m
noncomputable def Qad (rows:List (List D)):Bool:=match rows with
 | []=>false
 | r::_=>r.length != 0 && rows.all (Yp rows.length r.length)
theorem Qgj (σ:S3) (g:G):Yt σ g=.stuck:=rfl
theorem eq_int (i j:Int) (g:G):pEq (.int i) (.int j) g=.ok (.bl (i == j)) g:=rfl
theorem ne_int (i j:Int) (g:G):pNe (.int i) (.int j) g=.ok (.bl (!(i == j))) g:=rfl
theorem QiZ (n m:Nat) (ts:List D) (x:D) (g:G) (hz:ts.length≤SZ) (h:∀ d∈ts,thingD g d) :
  ∃ g',Keeps [] g g'∧mOp1 pAll (JP (ZY (mVar 3)) 1 [1,2] (gSet 0) Jb (Qn Z9 (Qb (mVar 0) (Qb (mVar 1) (Qb (mVar 2) mNil))))) [some x,some (.int n),some (.int m),some (.tup ts)] g=.ok (.bl (ts.all fun d=>entD d n m)) g':=by
 obtain⟨g1,h1,k1⟩:=Qe0 (ds:=ts) (e:=Qn Z9 (Qb (mVar 0) (Qb (mVar 1) (Qb (mVar 2) mNil)))) (no:=0) (σ:=[some (.int n),some (.int m)]) (g:=g) (f:=fun d=>.bl (entD d n m)) hz
  (fun d hd g1 k=>⟨g1,by simp [Qn,Qb,mNil,mVar,Res.bind,QdB d n m g1 ((h d hd).mono k)],.refl⟩)
 refine⟨g1++[.lst (ts.map fun d=>.bl (entD d n m))],k1.trans (.push _),?_⟩
 have h1:Ja ⟨fun _ i=>some ts[i]?,ts.length⟩ (gSet 0) Jb (Qn Z9 (Qb (mVar 0) (Qb (mVar 1) (Qb (mVar 2) mNil)))) (ts.length+1) 0 [none,some (.int n),some (.int m)] g []=.ok (ts.map fun d=>.bl (entD d n m)) g1:=h1
 simp [mOp1,JP,ZY,mVar,Res.bind,Qbd,hz,capt,h1,pAll,Qej]
theorem Qhs (n m:Nat) (ts:List D) (x:D) (g:G) (hz:ts.length≤SZ) (h:∀ d∈ts,thingD g d) :
  ∃ g',Keeps [] g g'∧QU [some x,some (.int n),some (.int m),some (.tup ts)] g=if Yp n m ts=true then .nx [some x,some (.int n),some (.int m),some (.tup ts)] g' else .stuck:=by
 by_cases hl:ts.length=m
 ·obtain⟨g2,k2,e2⟩:=QiZ n m ts x g hz h
  refine⟨g2,k2,?_⟩
  have hl':((ts.length:Int) == (m:Int))=true:=by simp [hl]
  have gr:Yp n m ts=ts.all fun d=>entD d n m:=by simp [Yp,hl]
  rw [gr]
  simp only [QU,mSeq,mIf,Qh,mOp2,mOp1,mVar,Res.bind,List.getElem?_cons_succ,List.getElem?_cons_zero,pLen,ne_int,hl',Bool.not_true,Bool.false_eq_true,if_false,Qy,Je]
  simp only [mOp1,Res.bind] at e2
  rw [e2]
  cases (ts.all fun d=>entD d n m) <;> simp [Yt]
 ·refine⟨g,.refl,?_⟩
  have hl':((ts.length:Int) == (m:Int))=false:=by simp; omega
  have gr:Yp n m ts=false:=by
   have:(ts.length == m)=false:=by simp [hl]
   simp only [Yp,this,Bool.false_and]
  rw [gr]
  simp only [QU,mSeq,mIf,Qh,mOp2,mOp1,mVar,Res.bind,List.getElem?_cons_succ,List.getElem?_cons_zero,pLen,ne_int,hl',Bool.not_false,if_true,Qgj,Bool.false_eq_true,if_false]
theorem Qcu (rows:List (List D)) (g:G) (hz:∀ r∈rows,r.length≤SZ) (h:∀ r∈rows,∀ d∈r,thingD g d) :
  ∃ g',Keeps [] g g'∧ZB [.tup (rows.map .tup)] g=if Qad rows=true then .ok .non g' else .stuck:=by
 cases rows with
 | nil=>exact⟨g,.refl,by simp [ZB,mDef,ZA,mSeq,mIf,Qh,mOp2,mOp1,mVar,mLit,Res.bind,pLen,eq_int,Qgj,Qad]⟩
 | cons r rest =>
  have e0:¬ ((rest.length:Int)+1=0):=by omega
  have e1:(0:Int)<(rest.length:Int)+1:=by omega
  by_cases hr:r.length=0
  ·refine⟨g,.refl,?_⟩
   simp [ZB,mDef,ZA,mSeq,mIf,Qh,mOp2,mOp1,mVar,mLit,Res.bind,pLen,eq_int,Qgj,Qad,hr,e0,e1,Qy,mAsg,gSet,pIx,atD,ixD]
  ·have hr':¬ ((r.length:Int)=0):=by omega
   have hrn:¬ r=[]:=fun z=>hr (by rw [z]; rfl)
   have hd0:Qad (r::rest)=(r::rest).all (Yp (r::rest).length r.length):=by simp [Qad,hr]
   have loop:=Qc5 (t:=gSet 3) (ds:=(r::rest).map D.tup) (σ:=[some (.tup ((r::rest).map .tup)),some (.int (r::rest).length),some (.int r.length),none]) (g:=g) (body:=QU)
    (fun i σ g1=>Keeps [] g g1∧(∃ u,σ=[some (.tup ((r::rest).map .tup)),some (.int (r::rest).length),some (.int r.length),u])∧∀ x∈(r::rest).take i,Yp (r::rest).length r.length x=true)
    (fun o=>o=.stuck∧∃ x∈r::rest,Yp (r::rest).length r.length x=false) ⟨.refl,⟨none,rfl⟩,by simp⟩ (fun i d σ g1 hd ⟨k,⟨u,hσ⟩,hg⟩=>by
     rw [List.getElem?_map] at hd
     cases hx:(r::rest)[i]? with
     | none=>rw [hx] at hd; cases hd
     | some ts =>
      rw [hx] at hd
      cases hd
      have hm:ts∈r::rest:=List.mem_of_getElem? hx
      subst hσ
      refine⟨_,rfl,?_⟩
      obtain⟨g2,k2,e2⟩:=Qhs (r::rest).length r.length ts (.tup ((r::rest).map .tup)) g1 (hz ts hm) fun d hd=>(h ts hm d hd).mono k
      simp only [List.set]
      rw [e2]
      cases ha:Yp (r::rest).length r.length ts with
      | true =>
       left
       refine⟨_,g2,by rw [if_pos rfl],k.trans k2,⟨_,rfl⟩,fun x hx'=>?_⟩
       rw [List.take_succ,hx] at hx'
       rcases List.mem_append.mp hx' with z | z
       ·exact hg x z
       ·have:x=ts:=by simpa using z
        rw [this]; exact ha
      | false =>
       right
       rw [if_neg Bool.false_ne_true]
       exact⟨trivial,rfl,ts,hm,ha⟩)
   have fin:ZA [some (.tup ((r::rest).map .tup)),none,none,none] g=forL ⟨fun _ i=>some ((r::rest).map D.tup)[i]?,((r::rest).map D.tup).length⟩ (gSet 3) QU (((r::rest).map D.tup).length+1) 0 [some (.tup ((r::rest).map .tup)),some (.int (r::rest).length),some (.int r.length),none] g:=by
    simp [ZA,mSeq,mIf,Qh,mOp2,mOp1,mVar,mLit,Res.bind,pLen,eq_int,e0,Qy,mAsg,gSet,pIx,atD,ixD,e1,hr',hrn,mFor,ZY,Qbd]
   have ap:ZB [.tup ((r::rest).map .tup)] g=match ZA [some (.tup ((r::rest).map .tup)),none,none,none] g with
    | .nx _ g'=>.ok .non g'
    | .rt d g'=>.ok d g'
    | .raise e _ g'=>.raise e g'
    | _=>.stuck:=rfl
   rw [ap,fin]
   rcases loop with⟨σ',g',h1,k1,_,h2⟩ | ⟨_,h1,x,hx,hg⟩
   ·refine⟨g',k1,?_⟩
    have:Qad (r::rest)=true:=by
     rw [hd0,List.all_eq_true]
     intro x hx
     exact h2 x (by rw [List.length_map,List.take_length]; exact hx)
    rw [if_pos this,h1]
   ·refine⟨g,.refl,?_⟩
    have:¬ Qad (r::rest)=true:=by
     rw [hd0,List.all_eq_true]
     intro z
     rw [z x hx] at hg; cases hg
    rw [if_neg this,h1]
end L3
end
section
namespace L3
open PySem
theorem Keeps.seq {g g1:G} (k:Keeps [] g g1) {d:D} {p:Bool×List D} (h:QE g d=some p):QE g1 d=some p:=by
 cases d with
 | ref n =>
  unfold QE at h ⊢
  dsimp only at h ⊢
  cases hg:g[n]? with
  | none=>rw [hg] at h; cases h
  | some o=>rw [hg] at h; rw [k.at' n o (by simp) hg]; exact h
 | _=>exact h
theorem Qkx {g:G} {d:D} {b:Bool} {ds:List D} (h:QE g d=some (b,ds)):∃ src,Qbd d g=.ok src g∧src.top=ds.length∧∀ g1 i,QE g1 d=some (b,ds)->src.at' g1 i=some ds[i]?:=by
 cases d with
 | tup es=>cases h; exact⟨_,rfl,rfl,fun _ _ _=>rfl⟩
 | fl es=>cases h; exact⟨_,rfl,rfl,fun _ _ _=>rfl⟩
 | ref n =>
  unfold QE at h
  dsimp only at h
  cases hg:g[n]? with
  | none=>rw [hg] at h; cases h
  | some o =>
   rw [hg] at h
   cases o with
   | lst es =>
    cases h
    refine⟨_,by unfold Qbd; dsimp only; rw [hg],rfl,fun g1 i h1=>?_⟩
    unfold QE at h1
    dsimp only at h1 ⊢
    cases hg1:g1[n]? with
    | none=>rw [hg1] at h1; cases h1
    | some o1 =>
     rw [hg1] at h1
     cases o1 with
     | lst es1=>cases h1; rfl
     | _=>cases h1
   | _=>cases h
 | _=>cases h
theorem Qht {src:Src} {ds:List D} {e:ME} {no:Nat} {σ:S3} {g:G} {f:D->D} (ht:src.top=ds.length) (hs:∀ g1 i,Keeps [] g g1->src.at' g1 i=some ds[i]?)
  (he:∀ d∈ds,∀ g1,Keeps [] g g1->∃ g2,e ((List.replicate (no+1) none++σ).set 0 (some d)) g1=.ok (f d) g2∧Keeps [] g1 g2) :
  ∃ g',Ja src (gSet 0) Jb e (src.top+1) 0 (List.replicate (no+1) none++σ) g []=.ok (ds.map f) g'∧Keeps [] g g':=by
 obtain⟨xs,σ',g',h1,h2,h3,h4⟩:=YO (src:=src) (t:=gSet 0) (c:=Jb) (e:=e) (n:=ds.length)
  (fun i σ' g1 acc=>acc=(ds.take i).map f∧Keeps [] g g1∧∃ u,σ'=(List.replicate (no+1) none++σ).set 0 u) (fun i σ' g1 acc hi h=>by
   obtain⟨h1,h2,u,h3⟩:=h
   obtain⟨g2,k1,k2⟩:=he ds[i] (List.getElem_mem hi) g1 h2
   refine⟨ds[i],_,g1,by rw [hs g1 i h2]; simp [hi],rfl,.inl ⟨f ds[i],g2,rfl,?_,?_,h2.trans k2,some ds[i],?_⟩⟩
   ·subst h3; rw [List.set_set]; exact k1
   ·rw [h1,List.take_succ_eq_append_getElem hi,List.map_append]; rfl
   ·subst h3; rw [List.set_set]) (fun σ g1 acc h=>by rw [hs g1 _ h.2.1]; simp) (src.top+1) 0 (List.replicate (no+1) none++σ) g [] (by omega) (by omega) ⟨by simp,.refl,none,by simp [List.replicate_succ]⟩
 refine⟨g',?_,h3⟩
 rw [h1,h2,List.take_length]
noncomputable def rowsOf (g:G) (d:D) (rows:List (List D)):Prop:=∃ b ds,QE g d=some (b,ds)∧ds.length=rows.length∧∀(i:Nat) x r,ds[i]?=some x->rows[i]?=some r->∃ c,QE g x=some (c,r)
theorem rowsOf.mono {g g1:G} {d:D} {rows:List (List D)} (k:Keeps [] g g1) (h:rowsOf g d rows):rowsOf g1 d rows:=by
 obtain⟨b,ds,h1,h2,h3⟩:=h
 exact⟨b,ds,k.seq h1,h2,fun i x r hx hr=>let ⟨c,q⟩:=h3 i x r hx hr; ⟨c,k.seq q⟩⟩
theorem Qgk {g:G} {d:D} {b:Bool} {ds:List D} (h:QE g d=some (b,ds)):J6 d g=.ok (.tup ds) g:=by
 cases d with
 | tup es=>cases h; rfl
 | fl es=>cases h; rfl
 | ref n =>
  unfold QE at h
  dsimp only at h
  cases hg:g[n]? with
  | none=>rw [hg] at h; cases h
  | some o =>
   rw [hg] at h
   cases o with
   | lst es=>cases h; simp [J6,hg]
   | _=>cases h
 | _=>cases h
theorem QV:Str.ofString "table" = ⟨#[116,97,98,108,101]⟩:=by decide +kernel
noncomputable def Jo (rows:List (List D)):GO:=.ins 11 [(Str.ofString "table",.tup (rows.map .tup))]
theorem Qi0 (m:Nat) (d:D) (rows:List (List D)) (g:G) (hm:g[m]?=some (.ins 11 [])) (hr:rowsOf g d rows) (hz:∀ r∈rows,r.length≤SZ) (hl:rows.length≤SZ) (h:∀ r∈rows,∀ d∈r,thingD g d) :
  ∃ g',Keeps [] g g'∧Zt [.ref m,d] g=if Qad rows=true then .ok .non (g'.set m (Jo rows)) else .stuck:=by
 obtain⟨b,ds,h1,h2,h3⟩:=hr
 obtain⟨src,s1,s2,s3⟩:=Qkx h1
 have mp:∀ x∈ds,∃ c r,QE g x=some (c,r):=fun x hx=>by
  obtain⟨i,hi,rfl⟩:=List.getElem_of_mem hx
  obtain⟨c,q⟩:=h3 i ds[i] (rows[i]'(by omega)) (by simp [hi]) (by simp [show i<rows.length by omega])
  exact⟨c,_,q⟩
 obtain⟨g1,c1,k1⟩:=Qht (src:=src) (ds:=ds) (e:=mOp1 J6 (mVar 0)) (no:=0) (σ:=[]) (g:=g) (f:=fun x=>.tup (((QE g x).map (·.2)).getD [])) s2 (fun g1 i k=>s3 g1 i (k.seq h1)) (fun x hx g1 k=>by
  obtain⟨c,r,q⟩:=mp x hx
  refine⟨g1,?_,.refl⟩
  simp [mOp1,mVar,Res.bind,Qgk (k.seq q),q])
 have em:(ds.map fun x=>D.tup (((QE g x).map (·.2)).getD []))=rows.map .tup:=by
  apply List.ext_getElem
  ·simp [h2]
  ·intro i hi hi'
   simp only [List.length_map] at hi hi'
   obtain⟨c,q⟩:=h3 i ds[i] rows[i] (by simp [hi]) (by simp [hi'])
   simp [q]
 rw [em] at c1
 have c1:Ja src (gSet 0) Jb (mOp1 J6 (mVar 0)) (src.top+1) 0 [none] g []=.ok (rows.map .tup) g1:=c1
 have k2:Keeps [] g (g1++[.lst (rows.map .tup)]):=k1.trans (.push _)
 obtain⟨g3,k3,c3⟩:=Qcu rows (g1++[.lst (rows.map .tup)]) hz fun r hr d hd=>(h r hr d hd).mono k2
 refine⟨g3,k2.trans k3,?_⟩
 have hz2:src.top≤SZ:=by omega
 have hm3:=(k2.trans k3).at' m _ (by simp) hm
 simp [Zt,mDef,JI,mSeq,mAsg,mOp1,JP,ZY,mVar,Res.bind,s1,hz2,capt,c1,J6,gSet,ZE,Qn,Qb,mNil,c3]
 by_cases hg:Qad rows=true
 ·simp [hg,QM,mVar,hm3,putG,Jo]
 ·simp [hg]
theorem Qi1 (d:D) (rows:List (List D)) (g:G) (hr:rowsOf g d rows) (hz:∀ r∈rows,r.length≤SZ) (hl:rows.length≤SZ) (h:∀ r∈rows,∀ d∈r,thingD g d) (a:MA) (σ:S3) (g0:G) (ha:a σ g0=.ok [d] g) :
  ∃ g',Keeps [] g g'∧QcV 11 Zt a σ g0=(if Qad rows=true then .ok (.ref g.length) g' else .stuck)∧(Qad rows=true->g'[g.length]?=some (Jo rows)):=by
 have kp:Keeps [] g (g++[.ins 11 []]):=.push _
 obtain⟨g',k',e'⟩:=Qi0 g.length d rows (g++[.ins 11 []]) (QN _) (hr.mono kp) hz hl fun r hr d hd=>(h r hr d hd).mono kp
 by_cases hg:Qad rows=true
 ·rw [if_pos hg] at e'
  refine⟨g'.set g.length (Jo rows),?_,?_,fun _=>?_⟩
  ·refine⟨by rw [List.length_set]; exact Nat.le_trans kp.len k'.len,fun n o _ e=>?_⟩
   have hn:n<g.length:=YN e
   rw [List.getElem?_set_ne (by omega)]
   exact(kp.trans k').at' n o (by simp) e
  ·simp [QcV,ha,Res.bind,e',hg]
  ·rw [List.getElem?_set_self]
   have:=k'.len
   simp at this
   omega
 ·rw [if_neg hg] at e'
  exact⟨g',kp.trans k',by simp [QcV,ha,Res.bind,e',hg],fun z=>absurd z hg⟩
end L3
end
section
namespace L3
open PySem
theorem Yy {a b:MS} {σ σ':S3} {g g':G} (h:a σ g=.nx σ' g'):mSeq a b σ g=b σ' g':=by unfold mSeq; rw [h]
theorem Y9 {a b:MS} {σ:S3} {d:D} {g g':G} (h:a σ g=.rt d g'):mSeq a b σ g=.rt d g':=by unfold mSeq; rw [h]
theorem Qc6 {a b:MS} {σ σ':S3} {x:Xc} {g g':G} (h:a σ g=.raise x σ' g'):mSeq a b σ g=.raise x σ' g':=by unfold mSeq; rw [h]
theorem Ze {i:Nat} {a:ME} {σ:S3} {d:D} {g g':G} (h:a σ g=.ok d g'):mAsg (gSet i) a σ g=.nx (σ.set i (some d)) g':=by unfold mAsg; rw [h]; rfl
theorem Qek {c:MT} {a b:MS} {σ:S3} {g g':G} (h:c σ g=.ok true g'):mIf c a b σ g=a σ g':=by unfold mIf; rw [h]; rfl
theorem Qc7 {c:MT} {a b:MS} {σ:S3} {g g':G} (h:c σ g=.ok false g'):mIf c a b σ g=b σ g':=by unfold mIf; rw [h]; rfl
theorem Zx {f:MF} {a:MA} {σ:S3} {ds:List D} {g g':G} (h:a σ g=.ok ds g'):Qn f a σ g=f ds g':=by unfold Qn; rw [h]; rfl
theorem Qgl {a:ME} {σ:S3} {d:D} {g g':G} (h:a σ g=.ok d g'):ZE a σ g=.nx σ g':=by unfold ZE; rw [h]
theorem Qbw {a:ME} {σ:S3} {d:D} {g g':G} (h:a σ g=.ok d g'):mRet a σ g=.rt d g':=by unfold mRet; rw [h]
theorem Qz {k n:Nat} {b:MS} {ds:List D} {d:D} {g g':G} (hl:ds.length=k) (h:b (ds.map some++List.replicate n none) g=.rt d g'):mDef k n b ds g=.ok d g':=by unfold mDef; rw [if_pos hl,h]
theorem Qh3 (ns:List Int) (i:Int) (h:0<ns.length):∃ x,atD (ns.map D.int) (i % ns.length)=some (.int x):=by
 have h1:0≤i % (ns.length:Int):=Int.emod_nonneg _ (by omega)
 have h2:i % (ns.length:Int)<ns.length:=Int.emod_lt_of_pos _ (by omega)
 have h3:(i % (ns.length:Int)).toNat<ns.length:=by omega
 refine⟨ns[(i % (ns.length:Int)).toNat],?_⟩
 unfold atD ixD
 rw [List.length_map,if_pos h1,if_pos h2]
 simp [h3]
theorem ix0 {a:Nat} {d:D} {g:G} (h:g[a]?=some (.lst [d])):pIx (.ref a) (.int 0) g=.ok d g:=by
 unfold pIx; dsimp only; rw [h]; rfl
theorem ixfl {ds:List D} {i:Int} {d:D} {g:G} (h:atD ds i=some d):pIx (.fl ds) (.int i) g=.ok d g:=by
 unfold pIx; dsimp only; rw [h]
theorem Qgm (c:Int) (x:D) (a:Nat) (k:Int) (g:G) (ga:g[a]?=some (.lst [.int k])) (hk:0≤k) (hk2:k<1000000001):∃ m,0≤m∧m<1999999973∧(mSeq (mAsg (gSet 3) (mOp2 pMod (mOp2 pMul (mOp2 pAdd (mOp2 pAdd (mOp2 pMod (mVar 2) (mLit (.int 2147483647))) (mOp2 pMul (mOp2 pMul (mOp2 pIx (mVar 1) (mLit (.int 0))) (mOp2 pIx (mVar 1) (mLit (.int 0)))) (mLit (.int 7919)))) (mLit (.int 11))) (mLit (.int 48271))) (mLit (.int 2147483647))))
      (mRet (mOp2 pMod (mOp2 pMul (mVar 3) (mVar 3)) (mLit (.int 1999999973))))) [some x,some (.ref a),some (.int c),none] g=.rt (.int m) g:=by
  have c1:cM k:=⟨by omega,by omega⟩
  have c2:cM 7919:=⟨by decide,by decide⟩
  have c3:cM 48271:=⟨by decide,by decide⟩
  have hr:=Int.emod_lt_of_pos ((c % 2147483647+k*k*7919+11)*48271) (show(0:Int)<2147483647 by decide)
  have hr0:=Int.emod_nonneg ((c % 2147483647+k*k*7919+11)*48271) (show(2147483647:Int)≠0 by decide)
  have c4:cM (((c % 2147483647+k*k*7919+11)*48271) % 2147483647):=⟨by omega,by omega⟩
  refine⟨((c % 2147483647+k*k*7919+11)*48271) % 2147483647*(((c % 2147483647+k*k*7919+11)*48271) % 2147483647) % 1999999973,Int.emod_nonneg _ (by decide),Int.emod_lt_of_pos _ (by decide),?_⟩
  have e1:(mOp2 pMod (mOp2 pMul (mOp2 pAdd (mOp2 pAdd (mOp2 pMod (mVar 2) (mLit (.int 2147483647))) (mOp2 pMul (mOp2 pMul (mOp2 pIx (mVar 1) (mLit (.int 0))) (mOp2 pIx (mVar 1) (mLit (.int 0)))) (mLit (.int 7919)))) (mLit (.int 11))) (mLit (.int 48271))) (mLit (.int 2147483647))) [some x,some (.ref a),some (.int c),none] g=.ok (.int (((c % 2147483647+k*k*7919+11)*48271) % 2147483647)) g:=by
    simp [mOp2,mVar,mLit,Res.bind,ix0 ga,pMod,pMul,pAdd,c1,c2,c3]
  rw [Yy (Ze e1)]
  generalize ((c % 2147483647+k*k*7919+11)*48271) % 2147483647=r at c4 ⊢
  refine Qbw ?_
  simp [mOp2,mVar,mLit,Res.bind,pMod,pMul,c4]
theorem Jp (ns:List Int) (a:Nat) (k:Int) (g:G) (hg:g[a]?=some (.lst [.int k])) (hk:0≤k) (hk2:k<1000000000) :
  ∃ m,0≤m∧m<1999999973∧Zj [.fl (ns.map .int),.ref a] g=.ok (.int m) (g.set a (.lst [.int (k+1)])):=by
 have s1:Y7 (mVar 1) (mLit (.int 0)) (mOp2 pAdd (mOp2 pIx (mVar 1) (mLit (.int 0))) (mLit (.int 1))) [some (.fl (ns.map .int)),some (.ref a),none,none] g=.nx [some (.fl (ns.map .int)),some (.ref a),none,none] (g.set a (.lst [.int (k+1)])):=by
  simp [Y7,mOp2,mVar,mLit,Res.bind,ix0 hg,pAdd,hg,ixD]
 have ga:(g.set a (.lst [.int (k+1)]))[a]?=some (.lst [.int (k+1)]):=QG hg
 generalize g.set a (.lst [.int (k+1)])=g1 at s1 ga ⊢
 have s3:∃ c,mAsg (gSet 2) (mIfE (Qh (mOp2 pGt (mOp1 pLen (mVar 0)) (mLit (.int 0)))) (mOp2 pIx (mVar 0) (mOp2 pMod (mOp2 pIx (mVar 1) (mLit (.int 0))) (mOp1 pLen (mVar 0)))) (mLit (.int 0))) [some (.fl (ns.map .int)),some (.ref a),none,none] g1=.nx [some (.fl (ns.map .int)),some (.ref a),some (.int c),none] g1:=by
  by_cases hl:0<ns.length
  ·obtain⟨x,hx⟩:=Qh3 ns (k+1) hl
   have hl':(0:Int)<(ns.length:Int):=by omega
   refine⟨x,Ze ?_⟩
   have t1:Qh (mOp2 pGt (mOp1 pLen (mVar 0)) (mLit (.int 0))) [some (.fl (ns.map .int)),some (.ref a),none,none] g1=.ok true g1:=by simp [Qh,mOp2,mOp1,mVar,mLit,Res.bind,pLen,pGt,pCmp,hl]
   unfold mIfE
   rw [t1,Res.bind_ok,if_pos rfl]
   simp only [mOp2,mOp1,mVar,mLit,Res.bind,List.getElem?_cons_succ,List.getElem?_cons_zero,ix0 ga,pLen,pMod,List.length_map,hl',if_true,ixfl hx]
  ·cases ns with
   | nil=>exact⟨0,rfl⟩
   | cons x r=>simp at hl
 obtain⟨c,s3⟩:=s3
 obtain⟨m,m1,m2,m3⟩:=Qgm c (.fl (ns.map .int)) a (k+1) g1 ga (by omega) (by omega)
 refine⟨m,m1,m2,Qz rfl ?_⟩
 show Qct [some (.fl (ns.map .int)),some (.ref a),none,none] g=_
 unfold Qct
 rw [Yy s1,Yy s3,m3]
end L3
end
section
namespace L3
open PySem
noncomputable def entOk (d:D) (n m:Nat):Prop:=d=.non∨∃(i j:Int) (w:Str),d=.tup [.int i,.str w,.int j]∧0≤i∧i<m∧0≤j∧j<n∧(w=⟨#[108]⟩∨w=⟨#[114]⟩)
theorem entOk.ent {d:D} {n m:Nat} (h:entOk d n m):entD d n m=true:=by
 rcases h with rfl | ⟨i,j,w,rfl,h1,h2,h3,h4,h5⟩
 ·rfl
 ·rcases h5 with rfl | rfl <;> simp [entD,Qac,wayD,h1,h2,h3,h4]
theorem entOk.thing {d:D} {n m:Nat} {g:G} (h:entOk d n m):thingD g d:=by
 rcases h with h | ⟨i,j,w,h,_⟩
 ·exact .inl h
 ·exact .inr ⟨i,j,w,h⟩
theorem s_lr:Str.ofString "lr" = ⟨#[108,114]⟩:=by decide +kernel
theorem Qky (i:Int) (g:G):∃ w,pIx (.str (Str.ofString "lr")) (.int (i % 2)) g=.ok (.str w) g∧(w=⟨#[108]⟩∨w=⟨#[114]⟩):=by
 rw [s_lr]
 rcases(by omega:i % 2=0∨i % 2=1) with e | e
 ·rw [e]; exact⟨_,rfl,.inl rfl⟩
 ·rw [e]; exact⟨_,rfl,.inr rfl⟩
theorem Qbx {n:Nat} {ds:List D} {y:D} {σ:S3} {g:G} {i j:Nat} (hi:σ[i]?=some (some (.ref n))) (hj:σ[j]?=some (some y)) (h:g[n]?=some (.lst ds)) (hz:ds.length<SZ) :
  ZE (Z3 (mVar i) (mVar j)) σ g=.nx σ (g.set n (.lst (ds++[y]))):=by
 refine Qgl (d:=.non) ?_
 simp [Z3,mVar,hi,hj,Res.bind,h,hz]
theorem Qgn (ns:List Int) (a l t:Nat) (k:Int) (n m:Nat) (x5 x7 x8 x9:Option D) (row:List D) (g:G) (hn:0<n) (hm:0<m) (ga:g[a]?=some (.lst [.int k])) (gl:g[l]?=some (.lst row)) (hal:a≠l) (hk:0≤k) (hk2:k<1000000000) (hz:row.length<SZ) :
  ∃ d x8',entOk d n m∧Zd [some (.fl (ns.map .int)),some (.ref a),some (.int n),some (.int m),some (.ref t),x5,some (.ref l),x7,x8,x9] g=.nx [some (.fl (ns.map .int)),some (.ref a),some (.int n),some (.int m),some (.ref t),x5,some (.ref l),x7,x8',some d] ((g.set a (.lst [.int (k+1)])).set l (.lst (row++[d]))):=by
 obtain⟨mm,m1,m2,e⟩:=Jp ns a k g ga hk hk2
 have gl1:(g.set a (.lst [.int (k+1)]))[l]?=some (.lst row):=by rw [List.getElem?_set_ne hal]; exact gl
 generalize g.set a (.lst [.int (k+1)])=g1 at e gl1 ⊢
 obtain⟨w,hw,ww⟩:=Qky (mm / 100) g1
 have hm':(0:Int)<m:=by omega
 have hn':(0:Int)<n:=by omega
 have s1:mAsg (gSet 8) (Qn Zj (Qb (mVar 0) (Qb (mVar 1) mNil))) [some (.fl (ns.map .int)),some (.ref a),some (.int n),some (.int m),some (.ref t),x5,some (.ref l),x7,x8,x9] g=.nx [some (.fl (ns.map .int)),some (.ref a),some (.int n),some (.int m),some (.ref t),x5,some (.ref l),x7,some (.int mm),x9] g1 :=
  Ze (by rw [Zx (ds:=[.fl (ns.map .int),.ref a]) (g':=g) rfl]; exact e)
 have v2:(mOpA pTup (Qb (mOp2 pMod (mOp2 Zp (mVar 8) (mLit (.int 9))) (mVar 3)) (Qb (mOp2 pIx (mLit (.str (Str.ofString "lr"))) (mOp2 pMod (mOp2 Zp (mVar 8) (mLit (.int 100))) (mLit (.int 2)))) (Qb (mOp2 pMod (mOp2 Zp (mVar 8) (mLit (.int 300))) (mVar 2)) mNil)))) [some (.fl (ns.map .int)),some (.ref a),some (.int n),some (.int m),some (.ref t),x5,some (.ref l),x7,some (.int mm),x9] g1=.ok (.tup [.int (mm / 9 % m),.str w,.int (mm / 300 % n)]) g1:=by
  simp [mOpA,Qb,mNil,mOp2,mVar,mLit,Res.bind,Zp,pMod,hm',hn',hw,pTup,SZ,hm,hn]
 have s2:mAsg (gSet 9) (mOpA pTup (Qb (mOp2 pMod (mOp2 Zp (mVar 8) (mLit (.int 9))) (mVar 3)) (Qb (mOp2 pIx (mLit (.str (Str.ofString "lr"))) (mOp2 pMod (mOp2 Zp (mVar 8) (mLit (.int 100))) (mLit (.int 2)))) (Qb (mOp2 pMod (mOp2 Zp (mVar 8) (mLit (.int 300))) (mVar 2)) mNil)))) [some (.fl (ns.map .int)),some (.ref a),some (.int n),some (.int m),some (.ref t),x5,some (.ref l),x7,some (.int mm),x9] g1=.nx [some (.fl (ns.map .int)),some (.ref a),some (.int n),some (.int m),some (.ref t),x5,some (.ref l),x7,some (.int mm),some (.tup [.int (mm / 9 % m),.str w,.int (mm / 300 % n)])] g1:=Ze v2
 have t3:Qh (mOp2 pEq (mOp2 pMod (mVar 8) (mLit (.int 9))) (mLit (.int 0))) [some (.fl (ns.map .int)),some (.ref a),some (.int n),some (.int m),some (.ref t),x5,some (.ref l),x7,some (.int mm),some (.tup [.int (mm / 9 % m),.str w,.int (mm / 300 % n)])] g1=.ok (mm % 9 == 0) g1:=by
  simp [Qh,mOp2,mVar,mLit,Res.bind,pMod,eq_int]
 unfold Zd
 by_cases h9:mm % 9=0
 ·refine⟨.non,some (.int mm),.inl rfl,?_⟩
  rw [Yy s1,Yy s2,Yy (σ':=[some (.fl (ns.map .int)),some (.ref a),some (.int n),some (.int m),some (.ref t),x5,some (.ref l),x7,some (.int mm),some .non]) (g':=g1) ?_]
  ·exact Qbx rfl rfl gl1 hz
  ·rw [Qek (g':=g1) (t3.trans (by simp [h9]))]; rfl
 ·refine⟨.tup [.int (mm / 9 % m),.str w,.int (mm / 300 % n)],some (.int mm),.inr ⟨_,_,w,rfl,Int.emod_nonneg _ (by omega),Int.emod_lt_of_pos _ hm',Int.emod_nonneg _ (by omega),Int.emod_lt_of_pos _ hn',ww⟩,?_⟩
  rw [Yy s1,Yy s2,Yy (σ':=[some (.fl (ns.map .int)),some (.ref a),some (.int n),some (.int m),some (.ref t),x5,some (.ref l),x7,some (.int mm),some (.tup [.int (mm / 9 % m),.str w,.int (mm / 300 % n)])]) (g':=g1) ?_]
  ·exact Qbx rfl rfl gl1 hz
  ·rw [Qc7 (g':=g1) (t3.trans (by simp [h9]))]; rfl
end L3
end
section
namespace L3
open PySem
theorem Qc8 {n:Nat} (h:n≤1000):n<SZ:=Nat.lt_of_le_of_lt h (by decide)
theorem Qby {n:Nat} (h:n≤1000):inR (n:Int):=by
 have:(n:Int)≤1000:=by exact_mod_cast h
 constructor <;> omega
theorem Yq {a:ME} {n:Nat} {σ:S3} {g g':G} (h:a σ g=.ok (.int n) g') (hr:inR (n:Int)):QD a σ g=.ok (Q8 0 n) g':=by
 unfold QD; rw [h,Res.bind_ok]; dsimp only; rw [if_pos hr,Int.toNat_natCast]
theorem QaG {it:MI} {t:MG} {body:MS} {src:Src} {σ:S3} {g g':G} (h:it σ g=.ok src g'):mFor it t body σ g=forL src t body (src.top+1) 0 σ g':=by
 unfold mFor; rw [h]
theorem Qhu (ns:List Int) (a l t:Nat) (k:Int) (n m:Nat) (x5 x7 x8 x9:Option D) (g:G) (hn:0<n) (hm:0<m) (hm8:m≤8) (ga:g[a]?=some (.lst [.int k])) (gl:g[l]?=some (.lst [])) (hal:a≠l) (hk:0≤k) (hk2:k+m<1000000000) :
  ∃ row y7 y8 y9 g',mFor (QD (mVar 3)) (gSet 7) Zd [some (.fl (ns.map .int)),some (.ref a),some (.int n),some (.int m),some (.ref t),x5,some (.ref l),x7,x8,x9] g=.nx [some (.fl (ns.map .int)),some (.ref a),some (.int n),some (.int m),some (.ref t),x5,some (.ref l),y7,y8,y9] g' ∧
   row.length=m∧(∀ d∈row,entOk d n m)∧Keeps [a,l] g g'∧g'[a]?=some (.lst [.int (k+m)])∧g'[l]?=some (.lst row):=by
 have hr:inR (m:Int):=Qby (by omega)
 have hf:mFor (QD (mVar 3)) (gSet 7) Zd [some (.fl (ns.map .int)),some (.ref a),some (.int n),some (.int m),some (.ref t),x5,some (.ref l),x7,x8,x9] g=forL (Q8 0 m) (gSet 7) Zd (m+1) 0 [some (.fl (ns.map .int)),some (.ref a),some (.int n),some (.int m),some (.ref t),x5,some (.ref l),x7,x8,x9] g:=QaG (Yq rfl hr)
 rw [hf]
 obtain⟨σ',g',e,row,y7,y8,y9,h1,h2,h3,h4,h5,h6⟩:=Yo (t:=gSet 7) (body:=Zd) (lo:=0) (n:=m) (σ:=[some (.fl (ns.map .int)),some (.ref a),some (.int n),some (.int m),some (.ref t),x5,some (.ref l),x7,x8,x9]) (g:=g)
  (fun i σ g1=>∃ row y7 y8 y9,σ=[some (.fl (ns.map .int)),some (.ref a),some (.int n),some (.int m),some (.ref t),x5,some (.ref l),y7,y8,y9]∧row.length=i∧(∀ d∈row,entOk d n m)∧Keeps [a,l] g g1∧g1[a]?=some (.lst [.int (k+i)])∧g1[l]?=some (.lst row))
  ⟨[],x7,x8,x9,rfl,rfl,by simp,.refl,by simpa using ga,gl⟩ (fun i σ g1 hi ⟨row,y7,y8,y9,h1,h2,h3,h4,h5,h6⟩=>by
   subst h1
   obtain⟨d,x8',hd,e⟩:=Qgn ns a l t (k+i) n m x5 (some (.int (0+i))) y8 y9 row g1 hn hm h5 h6 hal (by omega) (by omega) (Qc8 (by omega))
   refine⟨_,_,_,rfl,e,row++[d],_,x8',_,rfl,by simp [h2],?_,?_,?_,?_⟩
   ·intro x hx
    rcases List.mem_append.mp hx with z | z
    ·exact h3 x z
    ·rw [List.mem_singleton.mp z]; exact hd
   ·exact h4.trans (((Keeps.set a _).mono (by simp)).trans ((Keeps.set l _).mono (by simp)))
   ·rw [List.getElem?_set_ne (Ne.symm hal),QG h5]
    simp; omega
   ·refine QG (o:=.lst row) ?_
    rw [List.getElem?_set_ne hal]; exact h6)
 exact⟨row,y7,y8,y9,g',by rw [e,h1],h2,h3,h4,h5,h6⟩
end L3
end
section
namespace L3
open PySem
theorem om1 {a b c:Nat} (h1:a<b) (h2:b<c):a≠c:=by omega
theorem om2 {k x:Int} (h1:0≤k) (h2:0≤x):0≤k+x:=by omega
theorem om3 {k x:Int} {m:Nat} (h1:k<900000000) (h2:x≤96) (h3:m≤8):k+x+m<1000000000:=by omega
theorem om7 {a b c:Nat} {ds:List D} (h2:ds.length=a) (hi:a<b) (h3:b≤12):ds.length≤1000:=by omega
noncomputable def tabOf (N:Nat) (g:G) (t:Nat) (rows:List (List D)):Prop:=N≤t∧∃ ds,g[t]?=some (.lst ds)∧ds.length=rows.length∧∀(i:Nat) x r,ds[i]?=some x->rows[i]?=some r->∃ n,x=.ref n∧N≤n∧n≠t∧g[n]?=some (.lst r)
theorem tabOf.rows {N:Nat} {g:G} {t:Nat} {rows:List (List D)} (h:tabOf N g t rows):rowsOf g (.ref t) rows:=by
 obtain⟨_,ds,h1,h2,h3⟩:=h
 refine⟨true,ds,by simp [QE,h1],h2,fun i x r hx hr=>?_⟩
 obtain⟨n,rfl,_,_,h4⟩:=h3 i x r hx hr
 exact⟨true,by simp [QE,h4]⟩
theorem tabOf.mono {N:Nat} {S:List Nat} {g g1:G} {t:Nat} {rows:List (List D)} (h:tabOf N g t rows) (k:Keeps S g g1) (hS:∀ n∈S,n<N):tabOf N g1 t rows:=by
 obtain⟨h0,ds,h1,h2,h3⟩:=h
 refine⟨h0,ds,k.at' t _ (fun z=>by have:=hS t z; omega) h1,h2,fun i x r hx hr=>?_⟩
 obtain⟨n,h4,h5,h6,h7⟩:=h3 i x r hx hr
 exact⟨n,h4,h5,h6,k.at' n _ (fun z=>by have:=hS n z; omega) h7⟩
theorem Qhv (ns:List Int) (a:Nat) (k:Int) (n m:Nat) (g:G) (hn:0<n) (hm:0<m) (hn12:n≤12) (hm8:m≤8) (ga:g[a]?=some (.lst [.int k])) (hk:0≤k) (hk2:k<900000000) :
  ∃ rows g',Qbp [.fl (ns.map .int),.ref a,.int n,.int m] g=.ok (.ref g.length) g'∧Keeps [a] g g'∧g'[a]?=some (.lst [.int (k+n*m)])∧tabOf g.length g' g.length rows∧rows.length=n∧(∀ r∈rows,r.length=m)∧∀ r∈rows,∀ d∈r,entOk d n m:=by
 have hr:inR (n:Int):=Qby (by omega)
 have hal:a<g.length:=YN ga
 have hz0:([]:List D).length≤SZ:=by simp
 have s1:mAsg (gSet 4) (mOpA newL mNil) [some (.fl (ns.map .int)),some (.ref a),some (.int n),some (.int m),none,none,none,none,none,none] g=.nx [some (.fl (ns.map .int)),some (.ref a),some (.int n),some (.int m),some (.ref g.length),none,none,none,none,none] (g++[.lst []]) :=
  Ze (by simp [mOpA,mNil,Res.bind,newL])
 have kp:Keeps [a] g (g++[.lst []]):=.push _
 have ga1:(g++[.lst []])[a]?=some (.lst [.int k]):=(Keeps.push (S:=[]) (.lst [])).at' a _ (by simp) ga
 have gt1:(g++[.lst []])[g.length]?=some (.lst []):=QN _
 have hl1:g.length<(g++[GO.lst []]).length:=by simp
 generalize g++[.lst []]=g1 at s1 kp ga1 gt1 hl1
 obtain⟨σ',g',e,ds,rows,y5,y6,y7,y8,y9,h1,h2,h3,h4,h5,h6,h7,h8,h9⟩:=Yo (t:=gSet 5) (body:=Yx) (lo:=0) (n:=n) (σ:=[some (.fl (ns.map .int)),some (.ref a),some (.int n),some (.int m),some (.ref g.length),none,none,none,none,none]) (g:=g1)
  (fun i σ g2=>∃ ds rows y5 y6 y7 y8 y9,σ=[some (.fl (ns.map .int)),some (.ref a),some (.int n),some (.int m),some (.ref g.length),y5,y6,y7,y8,y9]∧ds.length=i∧rows.length=i∧Keeps [a,g.length] g1 g2∧g2[a]?=some (.lst [.int (k+i*m)])∧g2[g.length]?=some (.lst ds) ∧
   (∀(i:Nat) x r,ds[i]?=some x->rows[i]?=some r->∃ n,x=.ref n∧g.length<n∧g2[n]?=some (.lst r))∧(∀ r∈rows,r.length=m)∧∀ r∈rows,∀ d∈r,entOk d n m)
  ⟨[],[],none,none,none,none,none,rfl,rfl,rfl,.refl,by simpa using ga1,gt1,by simp,by simp,by simp⟩ (fun i σ g2 hi ⟨ds,rows,y5,y6,y7,y8,y9,h1,h2,h3,h4,h5,h6,h7,h8,h9⟩=>by
   subst h1
   have hl2:g.length<g2.length:=YN h6
   have q1:mAsg (gSet 6) (mOpA newL mNil) [some (.fl (ns.map .int)),some (.ref a),some (.int n),some (.int m),some (.ref g.length),some (.int (0+i)),y6,y7,y8,y9] g2=.nx [some (.fl (ns.map .int)),some (.ref a),some (.int n),some (.int m),some (.ref g.length),some (.int (0+i)),some (.ref g2.length),y7,y8,y9] (g2++[.lst []]) :=
    Ze (by simp [mOpA,mNil,Res.bind,newL])
   have k3:Keeps [] g2 (g2++[.lst []]):=.push _
   have gl3:(g2++[.lst []])[g2.length]?=some (.lst []):=QN _
   generalize g2++[.lst []]=g3 at q1 k3 gl3
   have him:(i:Int)*m≤96:=by
    have:i*m≤12*8:=Nat.mul_le_mul (by omega) hm8
    exact_mod_cast this
   have him0:(0:Int)≤(i:Int)*m:=Int.mul_nonneg (by omega) (by omega)
   obtain⟨row,z7,z8,z9,g4,e4,r1,r2,r3,r4,r5⟩:=Qhu ns a g2.length g.length (k+i*m) n m (some (.int (0+i))) y7 y8 y9 g3 hn hm hm8 (k3.at' a _ (by simp) h5) gl3 (om1 hal hl2) (om2 hk him0) (om3 hk2 him hm8)
   have gt4:g4[g.length]?=some (.lst ds):=r3.at' _ _ (by simp; omega) (k3.at' _ _ (by simp) h6)
   refine⟨_,[some (.fl (ns.map .int)),some (.ref a),some (.int n),some (.int m),some (.ref g.length),some (.int (0+i)),some (.ref g2.length),z7,z8,z9],g4.set g.length (.lst (ds++[.ref g2.length])),rfl,?_,ds++[.ref g2.length],rows++[row],_,_,z7,z8,z9,rfl,by simp [h2],by simp [h3],?_,?_,?_,?_,?_,?_⟩
   ·show Yx [some (.fl (ns.map .int)),some (.ref a),some (.int n),some (.int m),some (.ref g.length),some (.int (0+i)),y6,y7,y8,y9] g2=_
    unfold Yx
    rw [Yy q1,Yy e4]
    exact Qbx rfl rfl gt4 (Qc8 (om7 (c:=0) h2 hi hn12))
   ·refine⟨by rw [List.length_set]; exact Nat.le_trans h4.len (Nat.le_trans k3.len r3.len),fun b o hb eb=>?_⟩
    have hb':b≠a∧b≠g.length:=by simpa using hb
    have e2:=h4.at' b o hb eb
    have:b<g2.length:=YN e2
    rw [List.getElem?_set_ne (Ne.symm hb'.2)]
    exact r3.at' b o (by simp; omega) (k3.at' b o (by simp) e2)
   ·rw [List.getElem?_set_ne (by omega),r4]
    have:k+(i:Int)*m+m=k+((i+1:Nat):Int)*m:=by
     rw [Int.natCast_add,Int.add_mul]; simp; omega
    rw [this]
   ·exact QG gt4
   ·intro j x r hx hr'
    have key:∀ b o,g.length<b->g2[b]?=some o->(g4.set g.length (.lst (ds++[.ref g2.length])))[b]?=some o:=fun b o hb eb=>by
     have:b<g2.length:=YN eb
     rw [List.getElem?_set_ne (by omega)]
     exact r3.at' b o (by simp; omega) (k3.at' b o (by simp) eb)
    by_cases hj:j<i
    ·rw [List.getElem?_append_left (by omega)] at hx hr'
     obtain⟨b,hb1,hb2,hb3⟩:=h7 j x r hx hr'
     exact⟨b,hb1,hb2,key b _ hb2 hb3⟩
    ·have hji:j=i:=by
      have:=(List.getElem?_eq_some_iff.mp hx).1
      simp at this; omega
     subst hji
     rw [List.getElem?_append_right (by omega),h2] at hx
     rw [List.getElem?_append_right (by omega),h3] at hr'
     simp at hx hr'
     subst hx hr'
     exact⟨g2.length,rfl,hl2,by rw [List.getElem?_set_ne (by omega)]; exact r5⟩
   ·intro r hr'
    rcases List.mem_append.mp hr' with z | z
    ·exact h8 r z
    ·rw [List.mem_singleton.mp z]; exact r1
   ·intro r hr'
    rcases List.mem_append.mp hr' with z | z
    ·exact h9 r z
    ·rw [List.mem_singleton.mp z]; exact r2)
 refine⟨rows,g',?_,?_,h5,⟨Nat.le_refl _,ds,h6,by omega,fun i x r hx hr'=>?_⟩,h3,h8,h9⟩
 ·refine Qz rfl ?_
  show Qbo [some (.fl (ns.map .int)),some (.ref a),some (.int n),some (.int m),none,none,none,none,none,none] g=_
  unfold Qbo
  rw [Yy s1,Yy (σ':=σ') (g':=g') ?_]
  ·subst h1; rfl
  ·rw [← e]
   exact QaG (Yq rfl hr)
 ·refine⟨Nat.le_trans kp.len h4.len,fun b o hb eb=>?_⟩
  have:b<g.length:=YN eb
  exact h4.at' b o (by simp at hb ⊢; omega) (kp.at' b o hb eb)
 ·obtain⟨b,hb1,hb2,hb3⟩:=h7 i x r hx hr'
  exact⟨b,hb1,by omega,by omega,hb3⟩
end L3
end
section
namespace L3
open PySem
theorem Qg {a b:MS} {σ:S3} {g:G} {R:Out} (σ':S3) (g':G) (h:a σ g=.nx σ' g') (h2:b σ' g'=R):mSeq a b σ g=R:=(Yy h).trans h2
theorem ift {c:MT} {a b:MS} {σ:S3} {g:G} {R:Out} (g':G) (h:c σ g=.ok true g') (h2:a σ g'=R):mIf c a b σ g=R:=(Qek h).trans h2
theorem iff' {c:MT} {a b:MS} {σ:S3} {g:G} {R:Out} (g':G) (h:c σ g=.ok false g') (h2:b σ g'=R):mIf c a b σ g=R:=(Qc7 h).trans h2
end L3
end
section
namespace L3
open PySem
theorem eq_str (s t:Str) (g:G):pEq (.str s) (.str t) g=.ok (.bl (s == t)) g:=rfl
theorem mulL {i j:Int} {g:G} (h:cM i):pMul (.int i) (.int j) g=.ok (.int (i*j)) g:=if_pos (.inl h)
theorem mulR {i j:Int} {g:G} (h:cM j):pMul (.int i) (.int j) g=.ok (.int (i*j)) g:=if_pos (.inr h)
theorem Qae {k n:Nat} {b:MS} {ds:List D} {σ:S3} {g g':G} (hl:ds.length=k) (h:b (ds.map some++List.replicate n none) g=.nx σ g'):mDef k n b ds g=.ok .non g':=by unfold mDef; rw [if_pos hl,h]
theorem Qgo {k n:Nat} {b:MS} {ds:List D} {x:Xc} {σ:S3} {g g':G} (hl:ds.length=k) (h:b (ds.map some++List.replicate n none) g=.raise x σ g'):mDef k n b ds g=.raise x g':=by unfold mDef; rw [if_pos hl,h]
theorem JJ {f:D->D->G->Res D} {a b:ME} {σ:S3} {x y:D} {g g1 g2:G} {R:Res D} (ha:a σ g=.ok x g1) (hb:b σ g1=.ok y g2) (h:f x y g2=R):mOp2 f a b σ g=R:=by unfold mOp2; rw [ha,Res.bind_ok,hb,Res.bind_ok,h]
theorem Qaf {f:D->G->Res D} {a:ME} {σ:S3} {x:D} {g g1:G} {R:Res D} (ha:a σ g=.ok x g1) (h:f x g1=R):mOp1 f a σ g=R:=by unfold mOp1; rw [ha,Res.bind_ok,h]
theorem JW {a:ME} {σ:S3} {b:Bool} {g g1:G} (ha:a σ g=.ok (.bl b) g1):Qh a σ g=.ok b g1:=by unfold Qh; rw [ha,Res.bind_ok]
theorem Y3 {a:ME} {r:MA} {x:D} {xs:List D} {σ:S3} {g g1 g2:G} (h:a σ g=.ok x g1) (h2:r σ g1=.ok xs g2):Qb a r σ g=.ok (x::xs) g2:=by
 unfold Qb; rw [h,Res.bind_ok,h2]; rfl
theorem Qgp {n:Nat} {ds:List D} {y:D} {σ:S3} {g:G} {o e:ME} (ho:o σ g=.ok (.ref n) g) (h:g[n]?=some (.lst ds)) (he:e σ g=.ok y g) (hz:ds.length<SZ) :
  ZE (Z3 o e) σ g=.nx σ (g.set n (.lst (ds++[y]))):=by
 refine Qgl (d:=.non) ?_
 simp [Z3,ho,he,Res.bind,h,hz]
theorem entOk.good {rows:List (List D)} {n m:Nat} (hn:0<n) (hm:0<m) (h1:rows.length=n) (h2:∀ r∈rows,r.length=m) (h3:∀ r∈rows,∀ d∈r,entOk d n m):Qad rows=true:=by
 cases rows with
 | nil=>simp at h1; omega
 | cons q rest =>
  have hq:=h2 q (List.mem_cons_self ..)
  unfold Qad
  rw [Bool.and_eq_true,List.all_eq_true]
  refine⟨by simp; intro z; rw [z] at hq; simp at hq; omega,fun x hx=>?_⟩
  unfold Yp
  rw [Bool.and_eq_true,List.all_eq_true]
  exact⟨by simp [h2 x hx,hq],fun d hd=>by rw [h1,hq]; exact(h3 x hx d hd).ent⟩
theorem Qgq {it:MI} {n:Nat} {cap:List Nat} {t:MG} {c:MT} {e:ME} {σ:S3} {g g1 g2:G} {src:Src} {ds:List D} {σ0:S3} (h1:it σ g=.ok src g1) (hz:src.top≤SZ) (hc:capt n cap σ=σ0) (h2:Ja src t c e (src.top+1) 0 σ0 g1 []=.ok ds g2):JP it n cap t c e σ g=.ok (.ref g2.length) (g2++[.lst ds]):=by
 simp only [JP,h1,hz,hc,h2,if_true]
theorem Qi2 {g:G} {d1 d2:D} {b1 b2:Bool} {xs ys:List D} (h1:QE g d1=some (b1,xs)) (h2:QE g d2=some (b2,ys)) (hl:xs.length=ys.length) :
  ∃ src,Qb2 d1 d2 g=.ok src g∧src.top=xs.length∧∀ g1,QE g1 d1=some (b1,xs)->QE g1 d2=some (b2,ys)->src.at' g1 xs.length=some none∧∀(i:Nat) x y,xs[i]?=some x->ys[i]?=some y->src.at' g1 i=some (some (.tup [x,y])):=by
 unfold Qb2
 rw [h1,h2]
 refine⟨_,rfl,by simp [hl],fun g1 q1 q2=>⟨?_,fun i x y hx hy=>?_⟩⟩
 ·dsimp only; rw [q1,q2]; dsimp only; rw [List.getElem?_eq_none (Nat.le_refl _)]
 ·dsimp only; rw [q1,q2]; dsimp only; rw [hx,hy]
theorem Qh4 {a:MT} {σ:S3} {g g1:G} (h1:a σ g=.ok true g1):Je a σ g=.ok false g1:=by unfold Je; rw [h1]; rfl
noncomputable def srcL (a:Nat) (n:Nat):Src:=⟨fun g i=>(match g[a]? with | some (.lst es)=>some es[i]? | _=>none),n⟩
end L3
end
section
namespace L3
open PySem
noncomputable def rS:Str:=⟨#[114]⟩
theorem Qlq {a b:MT} {σ:S3} {g g1 g2:G} (h1:a σ g=.ok false g1) (h2:b σ g1=.ok false g2):mOrT a b σ g=.ok false g2:=by
 unfold mOrT; rw [h1,Res.bind_ok,if_neg Bool.false_ne_true,h2]
theorem Qb8 {t p:Nat} {ds:List D} {d:D} {g:G} (h:g[t]?=some (.lst ds)) (hp:ds[p]?=some d):pIx (.ref t) (.int p) g=.ok d g:=by
 have hl:p<ds.length:=(List.getElem?_eq_some_iff.mp hp).1
 unfold pIx; dsimp only; rw [h]; dsimp only
 unfold atD ixD
 rw [if_pos (by omega),if_pos (by omega)]
 simp [hp]
theorem Qkz {t:Nat} {i:Int} {ds:List D} {d:D} {g:G} (h:g[t]?=some (.lst ds)) (h0:0≤i) (hp:ds[i.toNat]?=some d):pIx (.ref t) (.int i) g=.ok d g:=by
 have e:((i.toNat:Nat):Int)=i:=by omega
 rw [← e]; exact Qb8 h hp
theorem Qhw {n k:Nat} {ds:List D} {y:D} {σ:S3} {g g1:G} {o i v:ME} (hv:v σ g=.ok y g1) (ho:o σ g1=.ok (.ref n) g1) (hi:i σ g1=.ok (.int k) g1) (h:g1[n]?=some (.lst ds)) (hk:k<ds.length) :
  Y7 o i v σ g=.nx σ (g1.set n (.lst (ds.set k y))):=by
 unfold Y7
 rw [hv]; dsimp only
 rw [ho]; dsimp only
 rw [hi]; dsimp only
 rw [h]; dsimp only
 have:ixD ds.length (k:Int)=some k:=by unfold ixD; rw [if_pos (by omega),if_pos (by omega)]; simp
 rw [this]
theorem JX {g:G} {l:Nat} {ds:List D} (h:g[l]?=some (.lst ds)):QE g (.ref l)=some (true,ds):=by unfold QE; dsimp only; rw [h]
end L3
end
section
namespace L3
open PySem
section
variable {σ:S3} {g:G}
@[simp] theorem QlD {a b:MS}:mSeq a b σ g=(match a σ g with | .nx σ' g'=>b σ' g' | o=>o):=rfl
@[simp] theorem QlE {i:Nat} {a:ME}:mAsg (gSet i) a σ g=(match a σ g with | .ok d g'=>.nx (σ.set i (some d)) g' | .raise e g'=>.raise e σ g' | .stuck=>.stuck):=rfl
@[simp] theorem QlP {c:MT} {a b:MS}:mIf c a b σ g=(match c σ g with | .ok t g'=>if t=true then a σ g' else b σ g' | .raise e g'=>.raise e σ g' | .stuck=>.stuck):=rfl
@[simp] theorem QkA {a:ME}:mRet a σ g=(match a σ g with | .ok d g'=>.rt d g' | .raise e g'=>.raise e σ g' | .stuck=>.stuck):=rfl
@[simp] theorem Qlr {a:ME}:ZE a σ g=(match a σ g with | .ok _ g'=>.nx σ g' | .raise e g'=>.raise e σ g' | .stuck=>.stuck):=rfl
@[simp] theorem Qls:QiC σ g=.rt .non g:=rfl
@[simp] theorem Qlt:Qy σ g=.nx σ g:=rfl
@[simp] theorem Qgr {i:Nat}:mVar i σ g=(match σ[i]? with | some (some d)=>.ok d g | _=>.stuck):=rfl
@[simp] theorem Qh5 {d:D}:mLit d σ g=.ok d g:=rfl
@[simp] theorem QkB {f:D->G->Res D} {a:ME}:mOp1 f a σ g=(match a σ g with | .ok x g1=>f x g1 | .raise e g'=>.raise e g' | .stuck=>.stuck):=by unfold mOp1 Res.bind; cases a σ g <;> rfl
@[simp] theorem Qc9 {f:D->D->G->Res D} {a b:ME}:mOp2 f a b σ g=(match a σ g with | .ok x g1=>(match b σ g1 with | .ok y g2=>f x y g2 | .raise e g'=>.raise e g' | .stuck=>.stuck) | .raise e g'=>.raise e g' | .stuck=>.stuck):=by unfold mOp2 Res.bind; cases a σ g with | ok x g1=>dsimp only; cases b σ g1 <;> rfl | _=>rfl
@[simp] theorem QkC:mNil σ g=.ok [] g:=rfl
@[simp] theorem Qi3 {a:ME} {r:MA}:Qb a r σ g=(match a σ g with | .ok x g1=>(match r σ g1 with | .ok xs g2=>.ok (x::xs) g2 | .raise e g'=>.raise e g' | .stuck=>.stuck) | .raise e g'=>.raise e g' | .stuck=>.stuck):=by unfold Qb Res.bind; cases a σ g with | ok x g1=>dsimp only; cases r σ g1 <;> rfl | _=>rfl
@[simp] theorem QkD {f:List D->G->Res D} {a:MA}:mOpA f a σ g=(match a σ g with | .ok x g1=>f x g1 | .raise e g'=>.raise e g' | .stuck=>.stuck):=by unfold mOpA Res.bind; cases a σ g <;> rfl
@[simp] theorem Qi4 {f:MF} {a:MA}:Qn f a σ g=(match a σ g with | .ok x g1=>f x g1 | .raise e g'=>.raise e g' | .stuck=>.stuck):=by unfold Qn Res.bind; cases a σ g <;> rfl
@[simp] theorem Qgs {a:ME}:Qh a σ g=(match a σ g with | .ok (.bl b) g1=>.ok b g1 | .raise e g'=>.raise e g' | _=>.stuck):=by unfold Qh Res.bind; cases a σ g with | ok d g1=>cases d <;> rfl | _=>rfl
@[simp] theorem QdC {a b:MT}:JO a b σ g=(match a σ g with | .ok c g1=>if c=true then b σ g1 else .ok false g1 | .raise e g'=>.raise e g' | .stuck=>.stuck):=by unfold JO Res.bind; cases a σ g <;> rfl
@[simp] theorem Qh6 {a b:MT}:mOrT a b σ g=(match a σ g with | .ok c g1=>if c=true then .ok true g1 else b σ g1 | .raise e g'=>.raise e g' | .stuck=>.stuck):=by unfold mOrT Res.bind; cases a σ g <;> rfl
@[simp] theorem QdD {a:MT}:Je a σ g=(match a σ g with | .ok c g1=>.ok (!c) g1 | .raise e g'=>.raise e g' | .stuck=>.stuck):=by unfold Je Res.bind; cases a σ g <;> rfl
@[simp] theorem QlF {c:MT} {a b:ME}:mIfE c a b σ g=(match c σ g with | .ok t g1=>if t=true then a σ g1 else b σ g1 | .raise e g'=>.raise e g' | .stuck=>.stuck):=by unfold mIfE Res.bind; cases c σ g <;> rfl
@[simp] theorem QlG {a b:ME}:mAnd a b σ g=(match a σ g with | .ok (.bl c) g1=>if c=true then b σ g1 else .ok (.bl false) g1 | .raise e g'=>.raise e g' | _=>.stuck):=by unfold mAnd Res.bind; cases a σ g with | ok d g1=>cases d <;> rfl | _=>rfl
@[simp] theorem Qh7 {i j:Int}:pAdd (.int i) (.int j) g=.ok (.int (i+j)) g:=rfl
@[simp] theorem QlH {i j:Int}:pSub (.int i) (.int j) g=.ok (.int (i - j)) g:=rfl
@[simp] theorem QlI {i:Int}:pNeg (.int i) g=.ok (.int (-i)) g:=rfl
@[simp] theorem QlQ {i j:Int}:pLt (.int i) (.int j) g=.ok (.bl (decide (i<j))) g:=rfl
@[simp] theorem QlR {i j:Int}:pLe (.int i) (.int j) g=.ok (.bl (decide (i≤j))) g:=rfl
@[simp] theorem QlS {i j:Int}:pGt (.int i) (.int j) g=.ok (.bl (decide (j<i))) g:=rfl
@[simp] theorem QlT {i j:Int}:pGe (.int i) (.int j) g=.ok (.bl (decide (j≤i))) g:=rfl
@[simp] theorem QlU {i j:Int}:pEq (.int i) (.int j) g=.ok (.bl (i == j)) g:=rfl
@[simp] theorem QlV {i j:Int}:pNe (.int i) (.int j) g=.ok (.bl (!(i == j))) g:=rfl
theorem JK {n:Nat} {ds:List D} (h:g[n]?=some (.lst ds)):pLen (.ref n) g=.ok (.int ds.length) g:=by simp [pLen,h]
theorem Qel {n:Nat} {ds:List D} {d:D} (h:g[n]?=some (.lst (d::ds).reverse)):pIx (.ref n) (.int (-1)) g=.ok d g:=by
 have e:(-1+((ds.length:Int)+1)).toNat=ds.length:=by omega
 have e1:(1:Int)≤(ds.length:Int)+1:=by omega
 simp [pIx,h,atD,ixD,e,e1]
theorem ix_tup {ds:List D} {n:Nat} {d:D} (h:ds[n]?=some d):pIx (.tup ds) (.int n) g=.ok d g:=by
 obtain⟨this,e⟩:=List.getElem?_eq_some_iff.mp h
 simp [pIx,atD,ixD,this,e]
@[simp] theorem QkE {d:D} {ds:List D}:pIx (.tup (d::ds)) (.int 0) g=.ok d g:=ix_tup (n:=0) rfl
@[simp] theorem QkF {c d:D} {ds:List D}:pIx (.tup (c::d::ds)) (.int 1) g=.ok d g:=ix_tup (n:=1) rfl
@[simp] theorem QkG {b c d:D} {ds:List D}:pIx (.tup (b::c::d::ds)) (.int 2) g=.ok d g:=ix_tup (n:=2) rfl
@[simp] theorem QlJ {a b c d:D} {ds:List D}:pIx (.tup (a::b::c::d::ds)) (.int 3) g=.ok d g:=ix_tup (n:=3) rfl
end
end L3
end
section
namespace L3
open PySem
noncomputable abbrev Sts:=List (Int×Int)
noncomputable def putN (s:Sts) (sg c:Int):Sts:=if c<1 then s else match s with
 | []=>if sg=0 then [] else [(sg,c)]
 | (t,k)::r=>if t=sg then (sg,k+c)::r else (sg,c)::(t,k)::r
noncomputable def Qo (s:Sts) (c:Int):Sts:=match s with
 | []=>[]
 | (t,k)::r=>putN r t (k - c)
noncomputable def Qk:Sts->Int
 | []=>0
 | (t,_)::_=>t
noncomputable def Qm (s:Sts) (sg most:Int):Int:=if Qk s=sg then (match s with | []=>most | (_,k)::_=>if most<k then most else k) else 0
noncomputable def Zy (m:Int):Sts->Prop
 | []=>True
 | (t,k)::r=>0≤t∧t<m∧1≤k∧Qk r≠t∧Zy m r
theorem Y4 {s:Sts} {t c:Int} (h:Qk s≠t):putN s t c=if c<1 then s else (t,c)::s:=by
 unfold putN
 split
 ·rfl
 ·cases s with
  | nil=>have:¬ t=0:=fun e=>h e.symm; simp [this]
  | cons p r=>obtain⟨u,k⟩:=p; have:¬ u=t:=h; simp [this]
theorem Qem {s:Sts} {t c:Int} (h:1≤c):Qk (putN s t c)=t:=by
 unfold putN
 rw [if_neg (by omega)]
 cases s with
 | nil=>dsimp only; split <;> simp_all [Qk]
 | cons p r=>obtain⟨u,k⟩:=p; dsimp only; split <;> simp_all [Qk]
theorem Y5 {m:Int} {s:Sts} {t c:Int} (h:Zy m s) (h0:0≤t) (h1:t<m):Zy m (putN s t c):=by
 unfold putN
 split
 ·exact h
 ·cases s with
  | nil=>dsimp only; split <;> simp_all [Zy,Qk]; omega
  | cons p r =>
   obtain⟨u,k⟩:=p
   dsimp only
   split
   ·subst u; simp only [Zy] at h ⊢; exact⟨h.1,h.2.1,by omega,h.2.2.2⟩
   ·rename_i hu
    exact⟨h0,h1,by omega,hu,h⟩
theorem QW {m:Int} {s:Sts} {c:Int} (h:Zy m s):Zy m (Qo s c):=by
 cases s with
 | nil=>exact h
 | cons p r=>exact Y5 h.2.2.2.2 h.1 h.2.1
theorem Jq {m:Int} {s:Sts} (h:Zy m s):Qo s 0=s:=by
 cases s with
 | nil=>rfl
 | cons p r =>
  obtain⟨t,k⟩:=p
  show putN r t (k - 0)=_
  have:=h.2.2.1
  rw [Y4 h.2.2.2.1,if_neg (by omega)]
  simp
theorem Qen {s:Sts} {t:Int}:putN s t 0=s:=by unfold putN; simp
theorem Qa1 {m:Int} {s:Sts} (h:Zy m s):putN (Qo s 1) (Qk s) 1=s:=by
 cases s with
 | nil=>rfl
 | cons p r =>
  obtain⟨t,k⟩:=p
  show putN (putN r t (k - 1)) t 1=_
  have hk:=h.2.2.1
  have hn:=h.2.2.2.1
  rw [Y4 hn]
  split
  ·rw [Y4 hn,if_neg (by omega),show k=1 by omega]
  ·unfold putN; simp
theorem Qcv {m:Int} {s:Sts} {t x:Int} (h:Zy m s) (hx:Qk s=t∨x=0):Qo (putN s t 1) (1+x)=Qo s x:=by
 by_cases hn:Qk s=t
 ·cases s with
  | nil =>
   have:t=0:=hn.symm
   subst this; rfl
  | cons p r =>
   obtain⟨u,k⟩:=p
   have:u=t:=hn
   subst this
   show Qo (putN ((u,k)::r) u 1) (1+x)=putN r u (k - x)
   have e:putN ((u,k)::r) u 1=(u,k+1)::r:=by unfold putN; simp
   rw [e]
   show putN r u (k+1 - (1+x))=_
   congr 1; omega
 ·have hx:x=0:=hx.resolve_left hn
  subst hx
  rw [Jq h,Y4 hn,if_neg (by omega)]
  show putN s t (1 - (1+0))=s
  exact Qen
theorem Qgt {s:Sts} {t a b:Int} (ha:1≤a) (hb:1≤b):putN (putN s t a) t b=putN s t (a+b):=by
 have h1:¬ a<1:=by omega
 have h2:¬ b<1:=by omega
 have h3:¬ a+b<1:=by omega
 cases s with
 | nil=>by_cases e:t=0 <;> simp [putN,e,h1,h2,h3]
 | cons p r=>obtain⟨u,k⟩:=p; by_cases e:u=t <;> simp [putN,e,h1,h2,h3,Int.add_assoc]
theorem Qda {m:Int} {s:Sts} {t c n:Int} (h:Zy m s) (ht:Qk s=t) (h0:0≤c) (hc:c<Qm s t n):Qk (Qo s c)=t∧Qm (Qo s c) t (n - c)=Qm s t n - c∧∀ e,0≤e->Qo (Qo s c) e=Qo s (c+e):=by
 cases s with
 | nil =>
  have:t=0:=ht.symm
  subst this
  refine⟨rfl,?_,fun _ _=>rfl⟩
  show Qm [] 0 (n - c)=_
  simp [Qm,Qk]
 | cons p r =>
  obtain⟨u,k⟩:=p
  have:u=t:=ht
  subst this
  have hn:=h.2.2.2.1
  have e1:Qm ((u,k)::r) u n=if n<k then n else k:=by simp [Qm,Qk]
  rw [e1] at hc ⊢
  have hck:c<k:=by split at hc <;> omega
  have e2:Qo ((u,k)::r) c=(u,k - c)::r:=by
   show putN r u (k - c)=_
   rw [Y4 hn,if_neg (by omega)]
  rw [e2]
  refine⟨rfl,?_,fun e _=>?_⟩
  ·have:Qm ((u,k - c)::r) u (n - c)=if n - c<k - c then n - c else k - c:=by simp [Qm,Qk]
   rw [this]; split <;> split <;> omega
  ·show putN r u (k - c - e)=putN r u (k - (c+e))
   congr 1; omega
theorem Qhx {s:Sts} {t n:Int} (h:0≤n):Qm s t n≤n:=by
 unfold Qm
 split
 ·split
  ·omega
  ·split <;> omega
 ·omega
theorem Qgu {m:Int} {s:Sts} {t n:Int} (hg:Zy m s) (h:0≤n):0≤Qm s t n:=by
 unfold Qm
 split
 ·split
  ·omega
  ·have:=hg.2.2.1; split <;> omega
 ·omega
theorem Qe1 {s:Sts} {t c n:Int} (h:c≤n):Qm s t c=(if Qm s t n≤c then Qm s t n else c)∨(Qk s≠t∧Qm s t c=0∧Qm s t n=0):=by
 by_cases e:Qk s=t
 ·left
  unfold Qm
  rw [if_pos e,if_pos e]
  split
  ·split <;> omega
  ·split <;> split <;> split <;> omega
 ·right; unfold Qm; rw [if_neg e,if_neg e]; exact⟨e,rfl,rfl⟩
end L3
end
section
namespace L3
open PySem
theorem Qe2 {m:Int} {s:Sts} {t c n:Int} (h:Zy m s) (ht:Qk s=t) (h0:0≤c) (hc:c≤Qm s t n):Qm (Qo s c) t (n - c)=Qm s t n - c:=by
 cases s with
 | nil =>
  have:t=0:=ht.symm
  subst this
  show Qm [] 0 (n - c)=_
  simp [Qm,Qk]
 | cons p r =>
  obtain⟨u,k⟩:=p
  have:u=t:=ht
  subst this
  have hn:=h.2.2.2.1
  have e1:Qm ((u,k)::r) u n=if n<k then n else k:=by simp [Qm,Qk]
  rw [e1] at hc ⊢
  show Qm (putN r u (k - c)) u (n - c)=_
  rw [Y4 hn]
  by_cases z:k - c<1
  ·rw [if_pos z]
   have:Qm r u (n - c)=0:=by unfold Qm; rw [if_neg hn]
   rw [this]; split at hc <;> split <;> omega
  ·rw [if_neg z]
   have:Qm ((u,k - c)::r) u (n - c)=if n - c<k - c then n - c else k - c:=by simp [Qm,Qk]
   rw [this]; split <;> split <;> omega
theorem Qeo {m:Int} {A:Sts} {own c w:Int} (hA:Zy m A) (h1:1≤c) (hw:c≤w) :
  (1+Qm A own (c - 1)=1+Qm A own (w - 1)∧1+Qm A own (w - 1)≤c) ∨
  (1+Qm A own (c - 1)=c∧c<1+Qm A own (w - 1)∧Qk (Qo A (c - 1))=own∧1+Qm (Qo (Qo A (c - 1)) 1) own (w - c - 1)=1+Qm A own (w - 1) - c ∧
   Qo (Qo (Qo A (c - 1)) 1) (1+Qm A own (w - 1) - c - 1)=Qo A (1+Qm A own (w - 1) - 1)):=by
 rcases Qe1 (s:=A) (t:=own) (show c - 1≤w - 1 by omega) with e | ⟨_,e1,e2⟩
 ·by_cases z:Qm A own (w - 1)≤c - 1
  ·rw [if_pos z] at e; left; omega
  ·rw [if_neg z] at e
   have hn:Qk A=own:=by
    apply Decidable.byContradiction; intro hn
    have:Qm A own (w - 1)=0:=by unfold Qm; rw [if_neg hn]
    omega
   obtain⟨q1,_,q3⟩:=Qda hA hn (show 0≤c - 1 by omega) (show c - 1<Qm A own (w - 1) by omega)
   have q4:=q3 1 (by omega)
   rw [show c - 1+1=c by omega] at q4
   have q5:=Qe2 hA hn (show 0≤c by omega) (show c≤Qm A own (w - 1) by omega)
   rw [show w - 1 - c=w - c - 1 by omega] at q5
   right
   refine⟨by omega,by omega,q1,by rw [q4,q5]; omega,?_⟩
   rw [q4]
   by_cases y:c<Qm A own (w - 1)
   ·rw [(Qda hA hn (show 0≤c by omega) y).2.2 _ (by omega)]; congr 1; omega
   ·rw [show 1+Qm A own (w - 1) - c - 1=0 by omega,Jq (QW hA)]; congr 1; omega
 ·left; omega
structure RowN where
 st:Nat
 L:Sts
 own:Int
 R:Sts
noncomputable def Qs (b:Int) (st:Nat) (A:Sts) (own w:Int):Int:=if b=(st:Int) then 1+Qm A own (w - 1) else 1
noncomputable def Yr (d:D) (S:RowN) (w:Int):Option (RowN×Int×Int):=match d with
 | .tup [.int a,.str y,.int b]=>some (if y=rS then (⟨b.toNat,putN S.L a (Qs b S.st S.R S.own w),Qk (Qo S.R (Qs b S.st S.R S.own w - 1)),Qo (Qo S.R (Qs b S.st S.R S.own w - 1)) 1⟩,Qs b S.st S.R S.own w,Qs b S.st S.R S.own w)
  else (⟨b.toNat,Qo (Qo S.L (Qs b S.st S.L S.own w - 1)) 1,Qk (Qo S.L (Qs b S.st S.L S.own w - 1)),putN S.R a (Qs b S.st S.L S.own w)⟩,Qs b S.st S.L S.own w,-Qs b S.st S.L S.own w))
 | _=>none
noncomputable def Qcw (rows:List (List D)) (s c:Nat):Option D:=(rows[s]?).bind fun r=>r[c]?
noncomputable def Jr (rows:List (List D)) (S:RowN) (n:Int):Option (RowN×Int×Int):=(Qcw rows S.st S.own.toNat).bind fun d=>Yr d S n
noncomputable def runN (rows:List (List D)):Nat->RowN->Int->Option (RowN×Int×Int×Int)
 | 0,S,n=>if n≤0 then some (S,0,0,0) else match Jr rows S n with
  | none=>some (S,0,0,0)
  | some _=>none
 | k+1,S,n=>if n≤0 then some (S,0,0,0) else match Jr rows S n with
  | none=>some (S,0,0,0)
  | some r=>(runN rows k r.1 (n - r.2.1)).map fun q=>(q.1,r.2.2+q.2.1,r.2.1+q.2.2.1,q.2.2.2+1)
structure OkN (n m:Nat) (S:RowN):Prop where
 st:S.st<n
 o0:0≤S.own
 o1:S.own<m
 L:Zy m S.L
 R:Zy m S.R
theorem JY {m:Nat} {s:Sts} (h:Zy m s) (hm:0<m):0≤Qk s∧Qk s<m:=by
 cases s with
 | nil=>exact⟨Int.le_refl _,by show(0:Int)<m; omega⟩
 | cons p r=>exact⟨h.1,h.2.1⟩
theorem Qa2 {m b w:Int} {st:Nat} {A:Sts} {own:Int} (h:Zy m A) (hw:1≤w):1≤Qs b st A own w∧Qs b st A own w≤w:=by
 unfold Qs
 split
 ·have:=Qhx (s:=A) (t:=own) (show 0≤w - 1 by omega)
  have:=Qgu (t:=own) h (show 0≤w - 1 by omega)
  omega
 ·omega
theorem QdE {n m:Nat} {S:RowN} {d:D} {w:Int} {r:RowN×Int×Int} (ho:OkN n m S) (he:entOk d n m) (hm:0<m) (hw:1≤w) (h:Yr d S w=some r):OkN n m r.1∧1≤r.2.1∧r.2.1≤w:=by
 rcases he with rfl | ⟨a,b,y,rfl,a0,a1,b0,b1,_⟩
 ·cases h
 ·unfold Yr at h
  dsimp only at h
  cases h
  split
  ·have s1:=Qa2 (b:=b) (st:=S.st) (own:=S.own) ho.R hw
   have d1:=QW (c:=Qs b S.st S.R S.own w - 1) ho.R
   have n1:=JY d1 hm
   exact⟨⟨by show b.toNat<n; omega,n1.1,n1.2,Y5 ho.L a0 a1,QW d1⟩,s1⟩
  ·have s1:=Qa2 (b:=b) (st:=S.st) (own:=S.own) ho.L hw
   have d1:=QW (c:=Qs b S.st S.L S.own w - 1) ho.L
   have n1:=JY d1 hm
   exact⟨⟨by show b.toNat<n; omega,n1.1,n1.2,QW d1,Y5 ho.R a0 a1⟩,s1⟩
theorem Qhy {n m:Nat} {S:RowN} {d:D} {c w:Int} {r:RowN×Int×Int} (ho:OkN n m S) (he:entOk d n m) (h1:1≤c) (hw:c≤w) (h:Yr d S w=some r) :
  (Yr d S c=some r∧r.2.1≤c)∨∃ r1,Yr d S c=some r1∧r1.2.1=c∧c<r.2.1∧r1.1.st=S.st∧r1.1.own=S.own∧Yr d r1.1 (w - c)=some (r.1,r.2.1 - c,r.2.2 - r1.2.2):=by
 rcases he with rfl | ⟨a,b,y,rfl,a0,a1,b0,b1,_⟩
 ·cases h
 ·unfold Yr at h ⊢
  dsimp only at h ⊢
  cases h
  by_cases hb:b=(S.st:Int)
  ·have hst:b.toNat=S.st:=by omega
   have e0:∀ A own w,Qs b S.st A own w=1+Qm A own (w - 1):=fun A own w=>if_pos hb
   by_cases hy:y=rS
   ·simp only [if_pos hy,hst,e0]
    rcases Qeo (own:=S.own) ho.R h1 hw with⟨x1,x2⟩ | ⟨x1,x2,x3,x4,x5⟩
    ·left; rw [x1]; exact⟨rfl,x2⟩
    ·right
     refine⟨_,rfl,x1,x2,rfl,by show Qk _=_; rw [x1]; exact x3,?_⟩
     dsimp only
     rw [x1,x3,e0,x4,x5,Qgt h1 (by omega)]
     rw [show c+(1+Qm S.R S.own (w - 1) - c)=1+Qm S.R S.own (w - 1) by omega]
   ·simp only [if_neg hy,hst,e0]
    rcases Qeo (own:=S.own) ho.L h1 hw with⟨x1,x2⟩ | ⟨x1,x2,x3,x4,x5⟩
    ·left; rw [x1]; exact⟨rfl,x2⟩
    ·right
     refine⟨_,rfl,x1,x2,rfl,by show Qk _=_; rw [x1]; exact x3,?_⟩
     dsimp only
     rw [x1,x3,e0,x4,x5,Qgt h1 (by omega)]
     rw [show c+(1+Qm S.L S.own (w - 1) - c)=1+Qm S.L S.own (w - 1) by omega,show -(1+Qm S.L S.own (w - 1)) - -c = -(1+Qm S.L S.own (w - 1) - c) by omega]
  ·have e0:∀ A own w,Qs b S.st A own w=1:=fun A own w=>if_neg hb
   left
   simp only [e0]
   refine⟨trivial,?_⟩
   split <;> exact h1
end L3
end
section
namespace L3
open PySem
structure Tb (rows:List (List D)) (n m:Nat):Prop where
 n0:0<n
 m0:0<m
 n12:n≤12
 m8:m≤8
 len:rows.length=n
 row:∀ r∈rows,r.length=m
 ent:∀ r∈rows,∀ d∈r,entOk d n m
theorem Tb.at {rows:List (List D)} {n m s c:Nat} (T:Tb rows n m) (hs:s<n) (hc:c<m):∃ row d,rows[s]?=some row∧row[c]?=some d∧entOk d n m∧Qcw rows s c=some d:=by
 have h1:s<rows.length:=by rw [T.len]; exact hs
 have hm:=List.getElem_mem h1
 have h2:c<rows[s].length:=by rw [T.row _ hm]; exact hc
 refine⟨rows[s],rows[s][c],by simp,by simp,T.ent _ hm _ (List.getElem_mem h2),?_⟩
 unfold Qcw
 simp [h1,h2]
section
variable {rows:List (List D)} {n m:Nat}
theorem Qbz {k:Nat} {S:RowN} {w:Int} (h:w≤0):runN rows k S w=some (S,0,0,0):=by cases k <;> (unfold runN; rw [if_pos h])
theorem QbA {k:Nat} {S:RowN} {w:Int} (h:Jr rows S w=none):runN rows k S w=some (S,0,0,0):=by
 cases k <;> (unfold runN; rw [h]; split <;> rfl)
theorem QaH {k:Nat} {S:RowN} {w:Int} {r:RowN×Int×Int} (hw:1≤w) (h:Jr rows S w=some r):runN rows (k+1) S w=(runN rows k r.1 (w - r.2.1)).map fun q=>(q.1,r.2.2+q.2.1,r.2.1+q.2.2.1,q.2.2.2+1):=by
 rw [runN,if_neg (by omega),h]
theorem Qgv {S:RowN} {w:Int} {r:RowN×Int×Int} (hw:1≤w) (h:Jr rows S w=some r):runN rows 0 S w=none:=by
 rw [runN,if_neg (by omega),h]
theorem Qcx:∀(k K:Nat) (S:RowN) (w:Int) q,k≤K->runN rows k S w=some q->runN rows K S w=some q
 | k,K,S,w,q,hk,h=>by
  by_cases hw:w≤0
  ·rw [Qbz hw] at h ⊢; exact h
  ·cases hn:Jr rows S w with
   | none=>rw [QbA hn] at h ⊢; exact h
   | some r =>
    cases k with
    | zero=>rw [Qgv (by omega) hn] at h; cases h
    | succ k =>
     obtain⟨K,rfl⟩:∃ K',K=K'+1:=⟨K - 1,by omega⟩
     rw [QaH (by omega) hn] at h ⊢
     cases hr:runN rows k r.1 (w - r.2.1) with
     | none=>rw [hr] at h; cases h
     | some q'=>rw [hr] at h; rw [Qcx k K _ _ _ (by omega) hr]; exact h
theorem Qgw (T:Tb rows n m) {S:RowN} {w:Int} {r:RowN×Int×Int} (ho:OkN n m S) (hw:1≤w) (h:Jr rows S w=some r):OkN n m r.1∧1≤r.2.1∧r.2.1≤w:=by
 have:=ho.o0; have:=ho.o1
 obtain⟨row,d,_,_,he,e⟩:=T.at ho.st (c:=S.own.toNat) (by omega)
 unfold Jr at h
 rw [e] at h
 exact QdE ho he T.m0 hw h
theorem Qgx (T:Tb rows n m):∀(k:Nat) (S:RowN) (w:Int) q,OkN n m S->0≤w->runN rows k S w=some q->OkN n m q.1∧0≤q.2.2.1∧q.2.2.1≤w∧0≤q.2.2.2∧q.2.2.2≤k
 | k,S,w,q,ho,h0,h=>by
  by_cases hw:w≤0
  ·rw [Qbz hw] at h; cases h; exact⟨ho,Int.le_refl _,h0,Int.le_refl _,by dsimp only; omega⟩
  ·cases hn:Jr rows S w with
   | none=>rw [QbA hn] at h; cases h; exact⟨ho,Int.le_refl _,h0,Int.le_refl _,by dsimp only; omega⟩
   | some r =>
    obtain⟨o1,s1,s2⟩:=Qgw T ho (by omega) hn
    cases k with
    | zero=>rw [Qgv (by omega) hn] at h; cases h
    | succ k =>
     rw [QaH (by omega) hn] at h
     cases hr:runN rows k r.1 (w - r.2.1) with
     | none=>rw [hr] at h; cases h
     | some q' =>
      rw [hr] at h; cases h
      obtain⟨x1,x2,x3,x4,x5⟩:=Qgx T k r.1 (w - r.2.1) q' o1 (by omega) hr
      exact⟨x1,by dsimp only; omega,by dsimp only; omega,by dsimp only; omega,by dsimp only; omega⟩
theorem Qgy (T:Tb rows n m):∀(k:Nat) (S:RowN) (w c:Int) q,OkN n m S->0≤c->c≤w->runN rows k S w=some q ->
  ∃ qa qb:RowN×Int×Int×Int,(∀ K,k≤K->runN rows K S c=some qa)∧(∀ K,k+1≤K->runN rows K qa.1 (w - c)=some qb)∧qb.1=q.1∧qa.2.1+qb.2.1=q.2.1∧qa.2.2.1+qb.2.2.1=q.2.2.1∧(qa.2.2.2+qb.2.2.2=q.2.2.2∨qa.2.2.2+qb.2.2.2=q.2.2.2+1)
 | k,S,w,c,q,ho,h0,hc,h=>by
  by_cases c0:c=0
  ·subst c0
   refine⟨(S,0,0,0),q,fun K _=>Qbz (Int.le_refl _),fun K hK=>?_,rfl,by simp,by simp,by simp⟩
   rw [Int.sub_zero]; exact Qcx k K S w q (by omega) h
  ·have:=ho.o0; have:=ho.o1
   obtain⟨row,d,_,_,he,e⟩:=T.at ho.st (c:=S.own.toNat) (by omega)
   have hN:∀ u,Jr rows S u=Yr d S u:=fun u=>by unfold Jr; rw [e]; rfl
   cases hn:Yr d S w with
   | none =>
    have hd:∀ u,Yr d S u=none:=by
     rcases he with rfl | ⟨a,b,y,rfl,_⟩
     ·intro u; rfl
     ·cases hn
    rw [QbA (by rw [hN,hn])] at h
    cases h
    exact⟨(S,0,0,0),(S,0,0,0),fun K _=>QbA (by rw [hN,hd]),fun K _=>QbA (by rw [hN,hd]),rfl,by simp,by simp,by simp⟩
   | some r =>
    obtain⟨o1,s1,s2⟩:=Qgw T ho (w:=w) (by omega) ((hN w).trans hn)
    cases k with
    | zero=>rw [Qgv (by omega) ((hN w).trans hn)] at h; cases h
    | succ k =>
     rw [QaH (by omega) ((hN w).trans hn)] at h
     cases hr:runN rows k r.1 (w - r.2.1) with
     | none=>rw [hr] at h; cases h
     | some q' =>
      rw [hr] at h; cases h
      rcases Qhy ho he (by omega) hc hn with⟨l1,l2⟩ | ⟨r1,l1,l2,l3,l4,l5,l6⟩
      ·obtain⟨qa,qb,x1,x2,x3,x4,x5,x6⟩:=Qgy T k r.1 (w - r.2.1) (c - r.2.1) q' o1 (by omega) (by omega) hr
       refine⟨(qa.1,r.2.2+qa.2.1,r.2.1+qa.2.2.1,qa.2.2.2+1),qb,fun K hK=>?_,fun K hK=>?_,x3,?_,?_,?_⟩
       ·obtain⟨K,rfl⟩:∃ K',K=K'+1:=⟨K - 1,by omega⟩
        rw [QaH (by omega) ((hN c).trans l1),x1 K (by omega)]; rfl
       ·have:=x2 K (by omega)
        rw [show w - r.2.1 - (c - r.2.1)=w - c by omega] at this
        exact this
       ·dsimp only; omega
       ·dsimp only; omega
       ·dsimp only; omega
      ·refine⟨(r1.1,r1.2.2+0,r1.2.1+0,0+1),(q'.1,(r.2.2 - r1.2.2)+q'.2.1,(r.2.1 - c)+q'.2.2.1,q'.2.2.2+1),fun K hK=>?_,fun K hK=>?_,rfl,?_,?_,?_⟩
       ·obtain⟨K,rfl⟩:∃ K',K=K'+1:=⟨K - 1,by omega⟩
        rw [QaH (by omega) ((hN c).trans l1),Qbz (by omega)]; rfl
       ·obtain⟨K,rfl⟩:∃ K',K=K'+1:=⟨K - 1,by omega⟩
        have hx:Jr rows r1.1 (w - c)=some (r.1,r.2.1 - c,r.2.2 - r1.2.2):=by unfold Jr; rw [l4,l5,e]; exact l6
        rw [QaH (by omega) hx]
        dsimp only
        rw [show w - c - (r.2.1 - c)=w - r.2.1 by omega,Qcx k K _ _ _ (by omega) hr]; rfl
       ·dsimp only; omega
       ·dsimp only; omega
       ·dsimp only; omega
end
end L3
end
section
namespace L3
open PySem
noncomputable def stD (p:Int×Int):D:=.tup [.int p.1,.int p.2]
noncomputable def stsD (s:Sts):List D:=s.map stD
noncomputable def revD (s:Sts):List D:=(stsD s).reverse
theorem Yz (s:Sts):(revD s).length=s.length:=by simp [revD,stsD]
theorem Qag (p:Int×Int) (r:Sts):revD (p::r)=revD r++[stD p]:=by simp [revD,stsD]
theorem Qcy {g:G} {s:Nat} {o:GO} (h:g[s]?=some o):g.set s o=g:=by
 refine List.ext_getElem? fun i=>?_
 by_cases z:s=i
 ·subst z; rw [QG h,h]
 ·rw [List.getElem?_set_ne z]
section
variable {s:Nat} {side:Sts} {g:G}
theorem Qcz {p:Int×Int} {r:Sts} (h:g[s]?=some (.lst (revD (p::r)))):pIx (.ref s) (.int (-1)) g=.ok (stD p) g:=Qel (ds:=stsD r) h
theorem Qhz (n:Nat):ixD (n+1) (-1)=some n:=by
 unfold ixD
 rw [if_neg (by omega),if_pos (by omega)]
 congr 1
 omega
theorem QkH {sg c:Int} (hs:g[s]?=some (.lst (revD side))) (hn:¬ (side=[]∧sg=0)) (hz:side.length<900):YZ [.ref s,.int sg,.int c] g=.ok .non (g.set s (.lst (revD (putN side sg c)))):=by
 have hl:=JK hs
 by_cases hc:c<1
 ·have:putN side sg c=side:=by unfold putN; rw [if_pos hc]
  rw [this,Qcy hs]
  exact Qz rfl (by simp [ZI,hc])
 ·cases side with
  | nil =>
   have h0:¬ sg=0:=fun e=>hn ⟨rfl,e⟩
   refine Qae (σ:=[some (.ref s),some (.int sg),some (.int c)]) rfl ?_
   have hs':g[s]?=some (.lst []):=hs
   simp [ZI,hc,hl,Z3,hs',Res.bind,putN,h0,pTup,SZ,revD,stsD,stD]
  | cons p r =>
   obtain⟨t,k⟩:=p
   have hlast:=Qcz hs
   have hs':=hs
   rw [Qag] at hs'
   have hz':(revD r).length+1<1000000:=by rw [Yz]; simp at hz; omega
   refine Qae (σ:=[some (.ref s),some (.int sg),some (.int c)]) rfl ?_
   by_cases ht:t=sg
   ·subst ht
    simp [ZI,hc,hl,hlast,stD,Yz,Y7,hs',Qhz,putN,pTup,SZ,Qag]
   ·simp [ZI,hc,hl,hlast,stD,ht,Yz,Z3,hs',Res.bind,putN,pTup,SZ,Qag]
    rw [if_pos (by simp at hz; omega)]
theorem Qgz {sg c:Int} (hs:g[s]?=some (.lst (revD side))) (hz:side.length<900):QeZ [.ref s,.int sg,.int c] g=.ok .non (g.set s (.lst (revD (putN side sg c)))):=by
 have hl:=JK hs
 refine Qae (σ:=[some (.ref s),some (.int sg),some (.int c)]) rfl ?_
 by_cases hn:side=[]∧sg=0
 ·obtain⟨rfl,rfl⟩:=hn
  have e:putN [] 0 c=[]:=by unfold putN; split <;> rfl
  rw [e,Qcy hs]
  simp [Qho,hl,revD,stsD]
 ·have ha:=QkH (c:=c) hs hn hz
  cases side with
  | nil=>have h0:¬ sg=0:=fun e=>hn ⟨rfl,e⟩; simp [Qho,hl,h0,ha,Yz]
  | cons p r=>simp [Qho,hl,ha,Yz]
theorem Js (side:Sts) (sg c:Int):(putN side sg c).length≤side.length+1:=by
 unfold putN
 split
 ·omega
 ·cases side with
  | nil=>dsimp only; split <;> simp
  | cons p r=>dsimp only; split <;> simp
theorem ZX (side:Sts) (c:Int):(Qo side c).length≤side.length:=by
 cases side with
 | nil=>exact Nat.le_refl _
 | cons p r=>exact Js r p.1 _
theorem QdF {c:Int} (hs:g[s]?=some (.lst (revD side))) (hz:side.length<900):Qbm [.ref s,.int c] g=.ok .non (g.set s (.lst (revD (Qo side c)))):=by
 have hl:=JK hs
 cases side with
 | nil =>
  refine Qae (σ:=[some (.ref s),some (.int c),none]) rfl ?_
  rw [show Qo [] c=[] from rfl,Qcy hs]
  simp [Qgi,hl,revD,stsD]
 | cons p r =>
  obtain⟨t,k⟩:=p
  have hs':=hs
  rw [Qag] at hs'
  have h1:(g.set s (.lst (revD r)))[s]?=some (.lst (revD r)):=QG hs
  have hp:=Qgz (sg:=t) (c:=k - c) h1 (by simp at hz; omega)
  rw [List.set_set] at hp
  refine Qae (σ:=[some (.ref s),some (.int c),some (stD (t,k))]) rfl ?_
  have e:pPop (.ref s) g=.ok (stD (t,k)) (g.set s (.lst (revD r))):=by simp [pPop,hs']
  simp [Qgi,hl,Yz,e]
  simp [stD,hp]
  rfl
theorem QbB (hs:g[s]?=some (.lst (revD side))):QS [.ref s] g=.ok (.int (Qk side)) g:=by
 have hl:=JK hs
 refine Qz rfl ?_
 cases side with
 | nil=>simp [YC,hl,revD,stsD,Qk]
 | cons p r=>simp [YC,hl,Yz,Qcz hs]; simp [stD,Qk]
theorem Qep {sg c:Int} (hs:g[s]?=some (.lst (revD side))):Qbn [.ref s,.int sg,.int c] g=.ok (.int (Qm side sg c)) g:=by
 have hl:=JK hs
 refine Qz rfl ?_
 by_cases hn:Qk side=sg
 ·cases side with
  | nil=>simp [Qcs,QbB hs,hl,hn,revD,stsD,Qm]
  | cons p r =>
   have:=Qcz hs
   simp [Qcs,QbB hs,hl,hn,Yz,this,Qm]
   simp [stD,Qdy]
 ·simp [Qcs,QbB hs,hn,Qm]
end
end L3
end
section
namespace L3
open PySem
theorem Q2:Str.ofString "state" = ⟨#[115,116,97,116,101]⟩:=by decide +kernel
theorem ZN:Str.ofString "left" = ⟨#[108,101,102,116]⟩:=by decide +kernel
theorem Zf:Str.ofString "right" = ⟨#[114,105,103,104,116]⟩:=by decide +kernel
theorem JZ:Str.ofString "own" = ⟨#[111,119,110]⟩:=by decide +kernel
theorem ZS:Str.ofString "moved" = ⟨#[109,111,118,101,100]⟩:=by decide +kernel
theorem Qi5:Str.ofString "entry" = ⟨#[101,110,116,114,121]⟩:=by decide +kernel
theorem QkI:Str.ofString "leap" = ⟨#[108,101,97,112]⟩:=by decide +kernel
theorem Qlu:Str.ofString "row" = ⟨#[114,111,119]⟩:=by decide +kernel
section
variable {t s l r o m v:D}
noncomputable def fwF (t s l r o m:D):List (Str×D):=[(Str.ofString "table",t),(Str.ofString "state",s),(Str.ofString "left",l),(Str.ofString "right",r),(Str.ofString "own",o),(Str.ofString "moved",m)]
@[simp] theorem QkR:(fwF t s l r o m).lookup (Str.ofString "table")=some t:=by unfold fwF; rw [QV,Q2,ZN,Zf,JZ,ZS]; rfl
@[simp] theorem QkS:(fwF t s l r o m).lookup (Str.ofString "state")=some s:=by unfold fwF; rw [QV,Q2,ZN,Zf,JZ,ZS]; rfl
@[simp] theorem Qlv:(fwF t s l r o m).lookup (Str.ofString "left")=some l:=by unfold fwF; rw [QV,Q2,ZN,Zf,JZ,ZS]; rfl
@[simp] theorem QkT:(fwF t s l r o m).lookup (Str.ofString "right")=some r:=by unfold fwF; rw [QV,Q2,ZN,Zf,JZ,ZS]; rfl
@[simp] theorem QlK:(fwF t s l r o m).lookup (Str.ofString "own")=some o:=by unfold fwF; rw [QV,Q2,ZN,Zf,JZ,ZS]; rfl
@[simp] theorem QkU:(fwF t s l r o m).lookup (Str.ofString "moved")=some m:=by unfold fwF; rw [QV,Q2,ZN,Zf,JZ,ZS]; rfl
@[simp] theorem QkV:(fwF t s l r o m).lookup (Str.ofString "entry")=none:=by unfold fwF; rw [QV,Q2,ZN,Zf,JZ,ZS,Qi5]; rfl
@[simp] theorem Qlw:(fwF t s l r o m).lookup (Str.ofString "leap")=none:=by unfold fwF; rw [QV,Q2,ZN,Zf,JZ,ZS,QkI]; rfl
@[simp] theorem QlL:(fwF t s l r o m).lookup (Str.ofString "row")=none:=by unfold fwF; rw [QV,Q2,ZN,Zf,JZ,ZS,Qlu]; rfl
@[simp] theorem QkW:putG (Str.ofString "state") v (fwF t s l r o m)=fwF t v l r o m:=by unfold fwF; rw [QV,Q2,ZN,Zf,JZ,ZS]; rfl
@[simp] theorem QlM:putG (Str.ofString "own") v (fwF t s l r o m)=fwF t s l r v m:=by unfold fwF; rw [QV,Q2,ZN,Zf,JZ,ZS]; rfl
@[simp] theorem QkX:putG (Str.ofString "moved") v (fwF t s l r o m)=fwF t s l r o v:=by unfold fwF; rw [QV,Q2,ZN,Zf,JZ,ZS]; rfl
@[simp] theorem QlN:(fwF t s l r o m).length=6:=rfl
@[simp] theorem QkY {rows:List (List D)}:([(Str.ofString "table",t)]:List (Str×D)).lookup (Str.ofString "table")=some t:=by rw [QV]; rfl
theorem pi1:putG (Str.ofString "table") t []=[(Str.ofString "table",t)]:=rfl
theorem pi2:putG (Str.ofString "state") s [(Str.ofString "table",t)]=[(Str.ofString "table",t),(Str.ofString "state",s)]:=by rw [QV,Q2]; rfl
theorem pi3:putG (Str.ofString "left") l [(Str.ofString "table",t),(Str.ofString "state",s)]=[(Str.ofString "table",t),(Str.ofString "state",s),(Str.ofString "left",l)]:=by rw [QV,Q2,ZN]; rfl
theorem pi4:putG (Str.ofString "right") r [(Str.ofString "table",t),(Str.ofString "state",s),(Str.ofString "left",l)]=[(Str.ofString "table",t),(Str.ofString "state",s),(Str.ofString "left",l),(Str.ofString "right",r)]:=by rw [QV,Q2,ZN,Zf]; rfl
theorem pi5:putG (Str.ofString "own") o [(Str.ofString "table",t),(Str.ofString "state",s),(Str.ofString "left",l),(Str.ofString "right",r)]=[(Str.ofString "table",t),(Str.ofString "state",s),(Str.ofString "left",l),(Str.ofString "right",r),(Str.ofString "own",o)]:=by rw [QV,Q2,ZN,Zf,JZ]; rfl
theorem pi6:putG (Str.ofString "moved") m [(Str.ofString "table",t),(Str.ofString "state",s),(Str.ofString "left",l),(Str.ofString "right",r),(Str.ofString "own",o)]=fwF t s l r o m:=by unfold fwF; rw [QV,Q2,ZN,Zf,JZ,ZS]; rfl
theorem QgA:([(Str.ofString "table",t),(Str.ofString "state",s),(Str.ofString "left",l),(Str.ofString "right",r)]:List (Str×D)).lookup (Str.ofString "right")=some r:=by rw [QV,Q2,ZN,Zf]; rfl
theorem QgB:([(Str.ofString "table",t),(Str.ofString "state",s),(Str.ofString "left",l),(Str.ofString "right",r),(Str.ofString "own",o)]:List (Str×D)).lookup (Str.ofString "right")=some r:=by rw [QV,Q2,ZN,Zf,JZ]; rfl
end
section
variable {σ:S3} {g:G}
@[simp] theorem Qlx {cs:List Nat} {f:Str} {o:ME}:ZO cs f o σ g=(match o σ g with
 | .ok (.ref n) g1=>(match g1[n]? with
  | some (.ins c fs)=>if c∈cs then (match fs.lookup f with | some d=>.ok d g1 | none=>.stuck) else .stuck
  | _=>.stuck)
 | .raise e g'=>.raise e g'
 | _=>.stuck):=by
 unfold ZO mOp1 Res.bind; cases o σ g with | ok d g1=>cases d <;> rfl | _=>rfl
@[simp] theorem Qjj {cs:List Nat} {f:Str} {o v:ME}:QM cs f o v σ g=(match v σ g with
 | .ok y g1=>(match o σ g1 with
  | .ok (.ref n) g2=>(match g2[n]? with
   | some (.ins c fs)=>if c∈cs∧fs.length<100 then .nx σ (g2.set n (.ins c (putG f y fs))) else .stuck
   | _=>.stuck)
  | .raise e g'=>.raise e σ g'
  | _=>.stuck)
 | .raise e g'=>.raise e σ g'
 | .stuck=>.stuck):=rfl
@[simp] theorem Qly {cc:Nat} {m:Str} {f:MF} {o:ME} {a:MA}:QbQ cc m f o a σ g=(match o σ g with
 | .ok (.ref n) g1=>(match g1[n]? with
  | some (.ins c fs)=>if c=cc∧fs.lookup m=none then (match a σ g1 with | .ok xs g2=>f (.ref n::xs) g2 | .raise e g'=>.raise e g' | .stuck=>.stuck) else .stuck
  | _=>.stuck)
 | .raise e g'=>.raise e g'
 | _=>.stuck):=by
 unfold QbQ Res.bind; cases o σ g with
 | ok d g1 =>
  cases d with
  | ref n =>
   dsimp only
   cases g1[n]? with
   | none=>rfl
   | some x=>cases x with
    | ins c fs=>dsimp only; split <;> first | rfl | (cases a σ g1 <;> rfl)
    | _=>rfl
  | _=>rfl
 | _=>rfl
end
noncomputable def fwO (rows:List (List D)) (st own mv:Int) (l r:Nat):GO:=.ins 13 (fwF (.tup (rows.map .tup)) (.int st) (.ref l) (.ref r) (.int own) (.int mv))
structure FRep (rows:List (List D)) (w l r:Nat) (g:G) (S:RowN) (mv:Int):Prop where
 w':g[w]?=some (fwO rows S.st S.own mv l r)
 l':g[l]?=some (.lst (revD S.L))
 r':g[r]?=some (.lst (revD S.R))
 wl:w≠l
 wr:w≠r
 lr:l≠r
theorem Qeq {rows:List (List D)} {w l r:Nat} {g:G} {S:RowN} {mv:Int} {d:D} (W:FRep rows w l r g S mv) (h0:0≤S.own) (h:Qcw rows S.st S.own.toNat=some d):Q3 [.ref w] g=.ok d g:=by
 refine Qz rfl ?_
 have hw:=W.w'
 unfold fwO at hw
 unfold Qcw at h
 cases hr:rows[S.st]? with
 | none=>rw [hr] at h; cases h
 | some row =>
  rw [hr] at h
  have e1:pIx (.tup (rows.map .tup)) (.int S.st) g=.ok (.tup row) g:=ix_tup (by rw [List.getElem?_map,hr]; rfl)
  have e2:pIx (.tup row) (.int S.own) g=.ok d g:=by
   have:pIx (.tup row) (.int S.own.toNat) g=.ok d g:=ix_tup h
   rw [Int.toNat_of_nonneg h0] at this
   exact this
  simp [Y8,hw,e1,e2]
end L3
end
section
namespace L3
open PySem
noncomputable def QkJ:MS:=(mSeq (ZE (Qn QeZ (Qb (mVar 5) (Qb (mOp2 pIx (mVar 2) (mLit (.int 0))) (Qb (mVar 6) mNil)))))
 (mSeq (ZE (Qn Qbm (Qb (mVar 4) (Qb (mOp2 pSub (mVar 6) (mLit (.int 1))) mNil))))
 (mSeq (QM [13] (Str.ofString "own") (mVar 0) (Qn QS (Qb (mVar 4) mNil)))
 (mSeq (ZE (Qn Qbm (Qb (mVar 4) (Qb (mLit (.int 1)) mNil))))
 (mSeq (QM [13] (Str.ofString "state") (mVar 0) (mOp2 pIx (mVar 2) (mLit (.int 2))))
 (mSeq (QM [13] (Str.ofString "moved") (mVar 0) (mIfE (Qh (mVar 3)) (mOp2 pAdd (ZO [13] (Str.ofString "moved") (mVar 0)) (mVar 6)) (mOp2 pSub (ZO [13] (Str.ofString "moved") (mVar 0)) (mVar 6))))
 (mRet (mVar 6))))))))
theorem Qdb {w ah bh:Nat} {A B:Sts} {g:G} {T l r y:D} {st own mv a b n asked:Int} {rt:Bool} (hw:g[w]?=some (.ins 13 (fwF T (.int st) l r (.int own) (.int mv)))) (ha:g[ah]?=some (.lst (revD A))) (hb:g[bh]?=some (.lst (revD B))) (h1:w≠ah) (h2:w≠bh) (h3:ah≠bh) (zA:A.length<900) (zB:B.length<900) :
  ∃ g',QkJ [some (.ref w),some (.int asked),some (.tup [.int a,y,.int b]),some (.bl rt),some (.ref ah),some (.ref bh),some (.int n)] g=.rt (.int n) g'∧Keeps [w,ah,bh] g g' ∧
   g'[w]?=some (.ins 13 (fwF T (.int b) l r (.int (Qk (Qo A (n - 1)))) (.int (if rt=true then mv+n else mv - n))))∧g'[ah]?=some (.lst (revD (Qo (Qo A (n - 1)) 1)))∧g'[bh]?=some (.lst (revD (putN B a n))):=by
 generalize hσ:([some (.ref w),some (.int asked),some (.tup [.int a,y,.int b]),some (.bl rt),some (.ref ah),some (.ref bh),some (.int n)]:S3)=σ
 have v0:σ[0]?=some (some (.ref w)):=by rw [← hσ]; rfl
 have v2:σ[2]?=some (some (.tup [.int a,y,.int b])):=by rw [← hσ]; rfl
 have v3:σ[3]?=some (some (.bl rt)):=by rw [← hσ]; rfl
 have v4:σ[4]?=some (some (.ref ah)):=by rw [← hσ]; rfl
 have v5:σ[5]?=some (some (.ref bh)):=by rw [← hσ]; rfl
 have v6:σ[6]?=some (some (.int n)):=by rw [← hσ]; rfl
 unfold QkJ
 have e1:=Qgz (sg:=a) (c:=n) hb zB
 have w1:(g.set bh (.lst (revD (putN B a n))))[w]?=_:=(List.getElem?_set_ne h2.symm).trans hw
 have a1:(g.set bh (.lst (revD (putN B a n))))[ah]?=_:=(List.getElem?_set_ne h3.symm).trans ha
 have b1:(g.set bh (.lst (revD (putN B a n))))[bh]?=some (.lst (revD (putN B a n))):=QG hb
 have k1:Keeps [w,ah,bh] g (g.set bh (.lst (revD (putN B a n)))):=(Keeps.set _ _).mono (by simp)
 generalize g.set bh (.lst (revD (putN B a n)))=g1 at e1 w1 a1 b1 k1
 have e2:=QdF (c:=n - 1) a1 zA
 have w2:(g1.set ah (.lst (revD (Qo A (n - 1)))))[w]?=_:=(List.getElem?_set_ne h1.symm).trans w1
 have b2:(g1.set ah (.lst (revD (Qo A (n - 1)))))[bh]?=_:=(List.getElem?_set_ne h3).trans b1
 have a2:(g1.set ah (.lst (revD (Qo A (n - 1)))))[ah]?=some (.lst (revD (Qo A (n - 1)))):=QG a1
 have k2:Keeps [w,ah,bh] g1 (g1.set ah (.lst (revD (Qo A (n - 1))))):=(Keeps.set _ _).mono (by simp)
 generalize g1.set ah (.lst (revD (Qo A (n - 1))))=g2 at e2 w2 a2 b2 k2
 have e3:=QbB a2
 have zD:=ZX A (n - 1)
 generalize hD:Qo A (n - 1)=D1 at e2 a2 e3 zD
 have w3:=QG (u:=.ins 13 (fwF T (.int st) l r (.int (Qk D1)) (.int mv))) w2
 have a3:(g2.set w (.ins 13 (fwF T (.int st) l r (.int (Qk D1)) (.int mv))))[ah]?=_:=(List.getElem?_set_ne h1).trans a2
 have b3:(g2.set w (.ins 13 (fwF T (.int st) l r (.int (Qk D1)) (.int mv))))[bh]?=_:=(List.getElem?_set_ne h2).trans b2
 have k3:Keeps [w,ah,bh] g2 (g2.set w (.ins 13 (fwF T (.int st) l r (.int (Qk D1)) (.int mv)))):=(Keeps.set _ _).mono (by simp)
 have s3:QM [13] (Str.ofString "own") (mVar 0) (Qn QS (Qb (mVar 4) mNil)) σ g2=.nx σ (g2.set w (.ins 13 (fwF T (.int st) l r (.int (Qk D1)) (.int mv)))):=by simp [v0,v4,e3,w2]
 generalize g2.set w (.ins 13 (fwF T (.int st) l r (.int (Qk D1)) (.int mv)))=g3 at w3 a3 b3 k3 s3
 have e4:=QdF (c:=1) a3 (by omega)
 have w4:(g3.set ah (.lst (revD (Qo D1 1))))[w]?=_:=(List.getElem?_set_ne h1.symm).trans w3
 have b4:(g3.set ah (.lst (revD (Qo D1 1))))[bh]?=_:=(List.getElem?_set_ne h3).trans b3
 have a4:(g3.set ah (.lst (revD (Qo D1 1))))[ah]?=some (.lst (revD (Qo D1 1))):=QG a3
 have k4:Keeps [w,ah,bh] g3 (g3.set ah (.lst (revD (Qo D1 1)))):=(Keeps.set _ _).mono (by simp)
 generalize g3.set ah (.lst (revD (Qo D1 1)))=g4 at e4 w4 a4 b4 k4
 refine⟨g4.set w (.ins 13 (fwF T (.int b) l r (.int (Qk D1)) (.int (if rt=true then mv+n else mv - n)))),?_,(((k1.trans k2).trans k3).trans k4).trans ((Keeps.set _ _).mono (by simp)),QG w4,(List.getElem?_set_ne h1).trans a4,(List.getElem?_set_ne h2).trans b4⟩
 refine Qg σ g1 (by simp [v2,v5,v6,e1]) (Qg σ g2 (by simp [v4,v6,e2]) (Qg σ g3 s3 (Qg σ g4 (by simp [v4,e4]) ?_)))
 have w5:=QG (u:=.ins 13 (fwF T (.int b) l r (.int (Qk D1)) (.int mv))) w4
 refine Qg σ (g4.set w (.ins 13 (fwF T (.int b) l r (.int (Qk D1)) (.int mv)))) (by simp [v0,v2,w4]) ?_
 cases rt <;> simp [v0,v3,v6,w5]
theorem s_r':Str.ofString "r" = rS:=s_r
theorem Qi6 {rows:List (List D)} {w l r n m:Nat} {g:G} {S:RowN} {mv asked:Int} {d:D} {rr:RowN×Int×Int} (W:FRep rows w l r g S mv) (he:entOk d n m) (h0:0≤S.own) (h:Qcw rows S.st S.own.toNat=some d) (hl:Yr d S asked=some rr) (zL:S.L.length<900) (zR:S.R.length<900) :
  ∃ g',Yn [.ref w,.int asked] g=.ok (.int rr.2.1) g'∧FRep rows w l r g' rr.1 (mv+rr.2.2)∧Keeps [w,l,r] g g':=by
 have e0:=Qeq W h0 h
 have hw:=W.w'
 unfold fwO at hw
 rcases he with rfl | ⟨a,b,y,rfl,a0,a1,b0,b1,_⟩
 ·cases hl
 ·unfold Yr at hl
  dsimp only at hl
  cases hl
  have q1:∀ c:Int,Qbn [.ref r,.int S.own,.int c] g=_:=fun c=>Qep (sg:=S.own) (c:=c) W.r'
  have q2:∀ c:Int,Qbn [.ref l,.int S.own,.int c] g=_:=fun c=>Qep (sg:=S.own) (c:=c) W.l'
  by_cases hy:y=rS
  ·rw [if_pos hy]
   obtain⟨g',x1,x2,x3,x4,x5⟩:=Qdb (y:=.str y) (rt:=true) (asked:=asked) (a:=a) (b:=b) (n:=Qs b S.st S.R S.own asked) hw W.r' W.l' W.wr W.wl W.lr.symm zR zL
   refine⟨g',Qz rfl ?_,⟨?_,x5,x4,W.wl,W.wr,W.lr⟩,x2.mono (by simp)⟩
   ·show Zb [some (.ref w),some (.int asked),none,none,none,none,none] g=_
    rw [← x1]
    unfold Zb
    refine Qg [some (.ref w),some (.int asked),some (.tup [.int a,.str y,.int b]),none,none,none,none] g (by simp [hw,e0]) (Qg [some (.ref w),some (.int asked),some (.tup [.int a,.str y,.int b]),some (.bl true),none,none,none] g (by simp [eq_str,s_r',hy]) (Qg [some (.ref w),some (.int asked),some (.tup [.int a,.str y,.int b]),some (.bl true),some (.ref r),none,none] g (by simp [hw]) (Qg [some (.ref w),some (.int asked),some (.tup [.int a,.str y,.int b]),some (.bl true),some (.ref r),some (.ref l),none] g (by simp [hw]) (Qg [some (.ref w),some (.int asked),some (.tup [.int a,.str y,.int b]),some (.bl true),some (.ref r),some (.ref l),some (.int (Qs b S.st S.R S.own asked))] g ?_ rfl))))
    by_cases hb:b=(S.st:Int) <;> simp [hw,Qs,hb,q1]
   ·rw [x3]; show _=some (fwO rows ((b.toNat:Nat):Int) _ _ _ _); rw [Int.toNat_of_nonneg b0]; rfl
  ·rw [if_neg hy]
   obtain⟨g',x1,x2,x3,x4,x5⟩:=Qdb (y:=.str y) (rt:=false) (asked:=asked) (a:=a) (b:=b) (n:=Qs b S.st S.L S.own asked) hw W.l' W.r' W.wl W.wr W.lr zL zR
   refine⟨g',Qz rfl ?_,⟨?_,x4,x5,W.wl,W.wr,W.lr⟩,x2⟩
   ·show Zb [some (.ref w),some (.int asked),none,none,none,none,none] g=_
    rw [← x1]
    unfold Zb
    refine Qg [some (.ref w),some (.int asked),some (.tup [.int a,.str y,.int b]),none,none,none,none] g (by simp [hw,e0]) (Qg [some (.ref w),some (.int asked),some (.tup [.int a,.str y,.int b]),some (.bl false),none,none,none] g (by simp [eq_str,s_r',hy]) (Qg [some (.ref w),some (.int asked),some (.tup [.int a,.str y,.int b]),some (.bl false),some (.ref l),none,none] g (by simp [hw]) (Qg [some (.ref w),some (.int asked),some (.tup [.int a,.str y,.int b]),some (.bl false),some (.ref l),some (.ref r),none] g (by simp [hw]) (Qg [some (.ref w),some (.int asked),some (.tup [.int a,.str y,.int b]),some (.bl false),some (.ref l),some (.ref r),some (.int (Qs b S.st S.L S.own asked))] g ?_ rfl))))
    by_cases hb:b=(S.st:Int) <;> simp [hw,Qs,hb,q2]
   ·rw [x3]; show _=some (fwO rows ((b.toNat:Nat):Int) _ _ _ _); rw [Int.toNat_of_nonneg b0]; rfl
end L3
end
section
namespace L3
open PySem
theorem Qdc {α:Type} {s:Nat} {xs:List α} {F H:α->D} {t:MG} {e:ME} {n:Nat} {cap:List Nat} {σ:S3} {g:G} {a:ME} (hs:g[s]?=some (.lst (xs.map F))) (hz:xs.length≤1000) (ha:a σ g=.ok (.ref s) g) (I:S3->Prop) (h0:I (capt n cap σ))
  (step:∀ x∈xs,∀ σ',I σ'->∃ σ1,t (F x) σ'=some σ1∧I σ1∧e σ1 g=.ok (H x) g):JP (ZY a) n cap t Jb e σ g=.ok (.ref g.length) (g++[.lst (xs.map H)]):=by
 have hit:ZY a σ g=.ok (srcL s xs.length) g:=by
  unfold ZY
  rw [ha,Res.bind_ok]
  unfold Qbd
  dsimp only
  rw [hs]
  dsimp only
  rw [List.length_map]
  try rfl
 obtain⟨ys,σ',g3,c1,c2,c3,_⟩:=YO (src:=srcL s xs.length) (t:=t) (c:=Jb) (e:=e) (n:=xs.length)
  (fun i σ' g4 acc=>acc=(xs.take i).map H∧g4=g∧I σ') (fun i σ' g4 acc hi hQ=>by
   obtain⟨q1,q2,q3⟩:=hQ
   subst q2
   obtain⟨σ1,e1,e2,e3⟩:=step xs[i] (List.getElem_mem hi) σ' q3
   refine⟨F xs[i],σ1,g4,?_,e1,.inl ⟨H xs[i],g4,rfl,e3,?_,rfl,e2⟩⟩
   ·show(match g4[s]? with | some (.lst es)=>some es[i]? | _=>none)=_
    rw [hs]; dsimp only; rw [List.getElem?_map,List.getElem?_eq_getElem hi]; rfl
   ·rw [q1,List.take_succ_eq_append_getElem hi,List.map_append]; rfl) (fun σ g4 acc hQ=>by
   show(match g4[s]? with | some (.lst es)=>some es[xs.length]? | _=>none)=_
   rw [hQ.2.1,hs]; dsimp only; rw [List.getElem?_eq_none (by simp)]) (xs.length+1) 0 (capt n cap σ) g [] (by omega) (by omega) ⟨rfl,rfl,h0⟩
 rw [List.take_length] at c2
 subst c2 c3
 exact Qgq hit (Nat.le_of_lt (Qc8 hz)) rfl c1
theorem QgC {α:Type} {H:α->D} {xs:List α} (h:∀ x∈xs,H x=.bl true):allB (xs.map H)=some true:=by
 induction xs with
 | nil=>rfl
 | cons p r ih =>
  rw [List.map_cons,h p (List.mem_cons_self ..)]
  show(allB (r.map H)).map (true && ·)=_
  rw [ih fun x hx=>h x (List.mem_cons_of_mem _ hx)]; rfl
theorem Qe3 {α:Type} {H:α->D} {xs:List α} (h:∀ x∈xs,H x=.bl false):anyB (xs.map H)=some false:=by
 induction xs with
 | nil=>rfl
 | cons p r ih =>
  rw [List.map_cons,h p (List.mem_cons_self ..)]
  show(anyB (r.map H)).map (false || ·)=_
  rw [ih fun x hx=>h x (List.mem_cons_of_mem _ hx)]; rfl
theorem QdG {m:Int}:∀ {s:Sts} {p:Int×Int},Zy m s->p∈s->0≤p.1∧p.1<m∧1≤p.2
 | _::_,_,h,hp=>by
  rcases List.mem_cons.mp hp with rfl | hp
  ·exact⟨h.1,h.2.1,h.2.2.1⟩
  ·exact QdG h.2.2.2.2 hp
theorem Qb9 {m:Int}:∀ {s:Sts} {i:Nat} {x y:Int×Int},Zy m s->s[i]?=some x->s[i+1]?=some y->x.1≠y.1
 | [],_,_,_,_,h,_=>by simp at h
 | p::r,0,x,y,h,hx,hy=>by
  have:p=x:=by simpa using hx
  subst this
  cases r with
  | nil=>simp at hy
  | cons q r =>
   have:q=y:=by simpa using hy
   subst this
   exact fun e=>h.2.2.2.1 e.symm
 | p::r,i+1,x,y,h,hx,hy=>Qb9 (s:=r) (i:=i) h.2.2.2.2 (by simpa using hx) (by simpa using hy)
theorem Qdd {m:Int}:∀ {s:Sts} {p:Int×Int},Zy m (s++[p])->p.1≠0
 | [],_,h=>fun e=>h.2.2.2.1 (by rw [e]; rfl)
 | _::r,_,h=>Qdd (s:=r) h.2.2.2.2
theorem Qe4 {p:Int×Int} {g:G} (h1:0≤p.1) (h2:1≤p.2):Z1 [stD p] g=.ok (.bl true) g:=by
 have e:∀ i:Int,QP [.int i] g=.ok (.bl (decide (0≤i))) g:=fun i=>rfl
 have e2:pLen (.tup [.int p.1,.int p.2]) g=.ok (.int 2) g:=rfl
 have e3:ZP .tuple (.tup [.int p.1,.int p.2]) g=.ok (.bl true) g:=rfl
 exact Qz rfl (by simp [QaF,stD,e,e2,e3,h1,show 0≤p.2 by omega,show 0<p.2 by omega])
theorem cut1 (xs:List D):cutD xs (some 1) none=xs.drop 1:=by
 unfold cutD sIxD
 cases xs with
 | nil=>rfl
 | cons x r=>simp
theorem Qde (side:Sts):side=[]∨∃ a p,side=a++[p]:=by
 rcases List.eq_nil_or_concat side with h | ⟨a,p,h⟩
 ·exact .inl h
 ·exact .inr ⟨a,p,by simpa using h⟩
theorem Qah {s m:Nat} {side:Sts} {g:G} (hs:g[s]?=some (.lst (stsD side))) (hG:Zy m side) (hz:side.length≤900):∃ g',Yv [.ref s] g=.ok .non g'∧Keeps [] g g':=by
 have hl:=JK hs
 have c1:=Qdc (F:=stD) (H:=fun _=>.bl true) (t:=gSet 0) (e:=Qn Z1 (Qb (mVar 0) mNil)) (n:=1) (cap:=[]) (σ:=[some (.ref s),none,none]) (a:=mVar 0) hs (by omega) rfl (fun σ=>∃ u,σ=[u]) ⟨_,rfl⟩ (fun x hx σ' ⟨u,hu⟩=>by
  have h1:=QdG hG hx
  subst hu
  exact⟨[some (stD x)],rfl,⟨_,rfl⟩,by simp [Qe4 h1.1 h1.2.2]⟩)
 have a1:allB (side.map fun _=>D.bl true)=some true:=QgC fun _ _=>rfl
 have hk:Keeps [] g (g++[.lst (side.map fun _=>D.bl true)]):=.push _
 have p1:pAll (.ref g.length) (g++[.lst (side.map fun _=>D.bl true)])=.ok (.bl true) (g++[.lst (side.map fun _=>D.bl true)]):=by simp [pAll,a1]
 generalize g++[.lst (side.map fun _=>D.bl true)]=g1 at c1 hk p1
 have hs1:=hk.at' _ _ (by simp) hs
 have t0:Qc4 (.ref s) g=.ok (.bl true) g:=by unfold Qc4 tyOf; dsimp only; rw [hs]; rfl
 have s1:J5 (.ref s) (some 1) none g1=.ok (.ref g1.length) (g1++[.lst ((stsD side).drop 1)]):=by unfold J5; dsimp only; rw [hs1]; dsimp only; rw [cut1]
 have k2:Keeps [] g1 (g1++[.lst ((stsD side).drop 1)]):=.push _
 have r2:=QN (g:=g1) (.lst ((stsD side).drop 1))
 generalize hr:g1.length=r at s1 r2
 generalize g1++[.lst ((stsD side).drop 1)]=g2 at s1 k2 r2
 have hs2:=k2.at' _ _ (by simp) hs1
 have q1:=JX hs2
 have q2:=JX r2
 have hlen:(stsD side).length=side.length:=by simp [stsD]
 have hz2:∃ src,Qb2 (.ref s) (.ref r) g2=.ok src g2∧src.top=side.length - 1∧(∀ i,i<side.length - 1->∃ x y,side[i]?=some x∧side[i+1]?=some y∧src.at' g2 i=some (some (.tup [stD x,stD y])))∧src.at' g2 (side.length - 1)=some none:=by
  unfold Qb2
  rw [q1,q2]
  refine⟨_,rfl,by simp [hlen],fun i hi=>?_,?_⟩
  ·have e1:(stsD side)[i]?=some (stD (side[i]'(by omega))):=by unfold stsD; rw [List.getElem?_map,List.getElem?_eq_getElem (by omega)]; rfl
   have e2:((stsD side).drop 1)[i]?=some (stD (side[i+1]'(by omega))):=by unfold stsD; rw [List.getElem?_drop,List.getElem?_map,show 1+i=i+1 by omega,List.getElem?_eq_getElem (by omega)]; rfl
   exact⟨_,_,List.getElem?_eq_getElem (by omega),List.getElem?_eq_getElem (by omega),by dsimp only; rw [q1,q2]; dsimp only; rw [e1,e2]⟩
  ·dsimp only; rw [q1,q2]; dsimp only
   rw [show((stsD side).drop 1)[side.length - 1]?=none from List.getElem?_eq_none (by rw [List.length_drop,hlen]; omega)]
   cases (stsD side)[side.length - 1]? <;> rfl
 obtain⟨src,z1,z2,z3,z4⟩:=hz2
 obtain⟨σ',g',f1,rfl,y1,y2,rfl⟩:=QiX (t:=YJ [gSet 1,gSet 2]) (body:=Yl) (σ:=[some (.ref s),none,none]) (g:=g2) z2 (fun _ σ g'=>g'=g2∧∃ y1 y2,σ=[some (.ref s),y1,y2]) ⟨rfl,_,_,rfl⟩ (fun i σ g' hi ⟨q,y1,y2,hσ⟩=>by
  subst q hσ
  obtain⟨x,y,hx,hy,hat⟩:=z3 i hi
  refine⟨_,[some (.ref s),some (stD x),some (stD y)],[some (.ref s),some (stD x),some (stD y)],g',hat,rfl,?_,rfl,_,_,rfl⟩
  have:=Qb9 hG hx hy
  simp [Yl,stD,this]) (fun σ g' ⟨q,_⟩=>by rw [q]; exact z4)
 refine⟨g',Qae rfl (?_:Jl [some (.ref s),none,none] g=.nx [some (.ref s),y1,y2] g'),hk.trans k2⟩
 unfold Jl
 refine Qg [some (.ref s),none,none] g1 ?_ (Qg [some (.ref s),y1,y2] g' ?_ ?_)
 ·have:Qh (mOp1 pAll (JP (ZY (mVar 0)) 1 [] (gSet 0) Jb (Qn Z1 (Qb (mVar 0) mNil)))) [some (.ref s),none,none] g=.ok true g1:=JW (Qaf c1 p1)
  exact iff' g1 (by rw [Qh6,QdD,Qgs,QkB,Qgr]; simp only [List.getElem?_cons_zero,t0]; rw [QdD,this]; rfl) rfl
 ·have e:QaC (mVar 0) (Yg (mVar 0) (JD (mLit (.int 1))) ZG) [some (.ref s),none,none] g1=.ok src g':=by
   unfold QaC Yg JD ZG
   simp [Res.bind,s1,z1]
  unfold mFor
  rw [e]
  exact f1
 ·have hl2:=JK hs2
  rcases Qde side with rfl | ⟨a,p,rfl⟩
  ·simp [hl2,stsD]
  ·have h3:pIx (.ref s) (.int (-1)) g'=.ok (stD p) g':=by
    have:g'[s]?=some (.lst (stD p::(stsD a).reverse).reverse):=by rw [hs2]; simp [stsD]
    exact Qel this
   have:=Qdd hG
   simp [hl2,hlen,h3]
   simp [stD,this]
end L3
end
section
namespace L3
open PySem
structure StR (n m:Nat) (g:G) (d:D) (st:Nat) (L R:Sts) (a b:Nat):Prop where
 d':d=.tup [.int st,.ref a,.ref b]
 a':g[a]?=some (.lst (stsD L))
 b':g[b]?=some (.lst (stsD R))
 L':Zy m L
 R':Zy m R
 s':st<n
theorem StR.mono {n m:Nat} {g g1:G} {d:D} {st:Nat} {L R:Sts} {a b:Nat} (h:StR n m g d st L R a b) (k:Keeps [] g g1):StR n m g1 d st L R a b :=
 ⟨h.d',k.at' _ _ (by simp) h.a',k.at' _ _ (by simp) h.b',h.L',h.R',h.s'⟩
theorem QdH {n m:Nat} {g:G} {d:D} {st:Nat} {L R:Sts} {a b:Nat} (h:StR n m g d st L R a b) (zL:L.length≤900) (zR:R.length≤900):∃ g',ZQ [d] g=.ok .non g'∧Keeps [] g g':=by
 obtain⟨g1,e1,k1⟩:=Qah h.a' h.L' zL
 obtain⟨g2,e2,k2⟩:=Qah (k1.at' _ _ (by simp) h.b') h.R' zR
 have hd:=h.d'
 subst hd
 refine⟨g2,Qae (σ:=[some (.tup [.int st,.ref a,.ref b])]) rfl ?_,k1.trans k2⟩
 have e:∀ i:Int,QP [.int i] g=.ok (.bl (decide (0≤i))) g:=fun i=>rfl
 have e3:pLen (.tup [.int st,.ref a,.ref b]) g=.ok (.int 3) g:=rfl
 have e4:ZP .tuple (.tup [.int st,.ref a,.ref b]) g=.ok (.bl true) g:=rfl
 simp [YM,e,e1,e2,e3,e4]
theorem Qh8 {s m:Nat} {side:Sts} {g:G} {σ:S3} {d0 d1 d3:Option D} (hσ:σ=[d0,d1,some (.int m),some (.ref s)]) (hs:g[s]?=some (.lst (stsD side))) (hG:Zy m side) (hz:side.length≤900):Zc σ g=.nx σ (g++[.lst (side.map fun _=>D.bl false)]):=by
 subst hσ
 have c1:=Qdc (F:=stD) (H:=fun _=>.bl false) (t:=YJ [gSet 0,gSet 1]) (e:=mOp2 pGe (mVar 0) (mVar 2)) (n:=2) (cap:=[2]) (σ:=[d0,d1,some (.int m),some (.ref s)]) (a:=mVar 3) hs (by omega) rfl (fun σ=>∃ u v,σ=[u,v,some (.int m)]) ⟨_,_,rfl⟩ (fun x hx σ' ⟨u,v,hu⟩=>by
  have h1:=QdG hG hx
  subst hu
  exact⟨[some (.int x.1),some (.int x.2),some (.int m)],rfl,⟨_,_,rfl⟩,by simp; omega⟩)
 have a1:anyB (side.map fun _=>D.bl false)=some false:=Qe3 fun _ _=>rfl
 have p1:pAny (.ref g.length) (g++[.lst (side.map fun _=>D.bl false)])=.ok (.bl false) (g++[.lst (side.map fun _=>D.bl false)]):=by simp [pAny,a1]
 unfold Zc
 exact iff' _ (JW (Qaf c1 p1)) rfl
theorem QhA {M:Nat} {rows:List (List D)} {g:G} (hM:g[M]?=some (Jo rows)):JT [.ref M] g=.ok (.int rows.length) g:=by
 refine Qz rfl ?_
 unfold Jo at hM
 simp [Qbl,hM,pLen]
theorem QhB {M m:Nat} {rows:List (List D)} {g:G} (hM:g[M]?=some (Jo rows)) (h0:0<rows.length) (hr:∀ r∈rows,r.length=m):Qaq [.ref M] g=.ok (.int m) g:=by
 refine Qz rfl ?_
 unfold Jo at hM
 cases rows with
 | nil=>simp at h0
 | cons r rest =>
  have:=hr r (List.mem_cons_self ..)
  simp [Qb7,hM,pLen,this]
theorem QcA {n m M:Nat} {rows:List (List D)} {g:G} {d:D} {st:Nat} {L R:Sts} {a b:Nat} (T:Tb rows n m) (hM:g[M]?=some (Jo rows)) (h:StR n m g d st L R a b) (zL:L.length≤900) (zR:R.length≤900):∃ g',ZK [.ref M,d] g=.ok .non g'∧Keeps [] g g':=by
 obtain⟨g1,e1,k1⟩:=QdH h zL zR
 have hM1:=k1.at' _ _ (by simp) hM
 have e2:=QhA hM1
 have e3:=QhB hM1 (by rw [T.len]; exact T.n0) T.row
 have h1:=h.mono k1
 have hd:=h.d'
 subst hd
 have hst:=h.s'
 generalize hx:([some (.ref M),some (.tup [.int st,.ref a,.ref b]),some (.int m)]:S3)=σ0
 have s1:=Qh8 (d0:=some (.ref M)) (d1:=some (.tup [.int st,.ref a,.ref b])) (d3:=none) rfl h1.a' h1.L' zL
 have k2:Keeps [] g1 (g1++[.lst (L.map fun _=>D.bl false)]):=.push _
 generalize g1++[.lst (L.map fun _=>D.bl false)]=g2 at s1 k2
 have h2:=h1.mono k2
 have s2:=Qh8 (d0:=some (.ref M)) (d1:=some (.tup [.int st,.ref a,.ref b])) (d3:=none) rfl h2.b' h2.R' zR
 have k3:Keeps [] g2 (g2++[.lst (R.map fun _=>D.bl false)]):=.push _
 generalize g2++[.lst (R.map fun _=>D.bl false)]=g3 at s2 k3
 refine⟨g3,Qae (σ:=[some (.ref M),some (.tup [.int st,.ref a,.ref b]),some (.int m),some (.ref b)]) rfl ?_,(k1.trans k2).trans k3⟩
 unfold Yw
 refine Qg [some (.ref M),some (.tup [.int st,.ref a,.ref b]),none,none] g1 (by simp [e1]) (Qg [some (.ref M),some (.tup [.int st,.ref a,.ref b]),none,none] g1 (by simp [e2,T.len]; intro z; omega) (Qg [some (.ref M),some (.tup [.int st,.ref a,.ref b]),some (.int m),none] g1 (by simp [e3]) ?_))
 have e5:ZY (Yg (mVar 1) (JD (mLit (.int 1))) ZG) [some (.ref M),some (.tup [.int st,.ref a,.ref b]),some (.int m),none] g1=.ok ⟨fun _ i=>some ([D.ref a,D.ref b]:List D)[i]?,2⟩ g1:=rfl
 rw [QaG e5]
 show forL _ _ _ 3 0 _ _=_
 simp [forL,gSet,s1,s2]
theorem Jy {s:Nat} {ds:List D} {g:G} (hs:g[s]?=some (.lst ds)):Zv (.ref s) g=.ok (.ref g.length) (g++[.lst ds.reverse]):=by unfold Zv; rw [JX hs]
theorem Zu {g:G} {t:List GO} {M:Nat} {o:GO} (h:g[M]?=some o):(g++t)[M]?=some o:=by rw [List.getElem?_append_left (YN h)]; exact h
theorem gt0 {g:G} {t:List GO} {o:GO}:(g++o::t)[g.length]?=some o:=by simp
theorem gt1 {g:G} {t:List GO} {o p:GO}:(g++p::o::t)[g.length+1]?=some o:=by simp
theorem gt2 {g:G} {t:List GO} {o p q:GO}:(g++q::p::o::t)[g.length+2]?=some o:=by simp
theorem st0 {g:G} {t:List GO} {o u:GO}:(g++o::t).set g.length u=g++u::t:=by simp
theorem st2 {g:G} {t:List GO} {o p q u:GO}:(g++q::p::o::t).set (g.length+2) u=g++q::p::u::t:=by rw [List.set_append_right _ _ (by omega)]; simp
theorem Qi7 {n m M:Nat} {rows:List (List D)} {g:G} {d:D} {st:Nat} {L R:Sts} {a b:Nat} {σ:S3} (hM:g[M]?=some (Jo rows)) (h:StR n m g d st L R a b) (zR:R.length<900) (v0:σ[0]?=some (some (.ref M))) (v1:σ[1]?=some (some d)) :
  ∃ w l r g',QcV 13 ZJ (Qb (mVar 0) (Qb (mVar 1) mNil)) σ g=.ok (.ref w) g'∧FRep rows w l r g' ⟨st,L,Qk R,Qo R 1⟩ 0∧g.length≤w∧g.length≤l∧g.length≤r∧Keeps [] g g':=by
 have hd:=h.d'
 subst hd
 unfold Jo at hM
 have zz:(Qo R 1).length<900:=by have:=ZX R 1; omega
 let σ0:S3:=[some (.ref g.length),some (.ref M),some (.tup [.int st,.ref a,.ref b])]
 have hi:ZJ [.ref g.length,.ref M,.tup [.int st,.ref a,.ref b]] (g++[.ins 13 []])=.ok .non (g++[fwO rows st (Qk R) 0 (g.length+1) (g.length+2),.lst (revD L),.lst (revD (Qo R 1))]):=by
  refine Qae (σ:=σ0) rfl ?_
  show Ym σ0 (g++[.ins 13 []])=_
  unfold Ym
  refine Qg σ0 (g++[.ins 13 [(Str.ofString "table",.tup (rows.map .tup))]]) (by simp [σ0,Zu hM,pi1]) ?_
  refine Qg σ0 (g++[.ins 13 [(Str.ofString "table",.tup (rows.map .tup)),(Str.ofString "state",.int st)]]) (by simp [σ0,pi2]) ?_
  have q1:Zv (.ref a) (g++[.ins 13 [(Str.ofString "table",.tup (rows.map .tup)),(Str.ofString "state",.int st)]])=.ok (.ref (g.length+1)) (g++[.ins 13 [(Str.ofString "table",.tup (rows.map .tup)),(Str.ofString "state",.int st)],.lst (revD L)]):=by rw [Jy (Zu h.a')]; simp [revD]
  refine Qg σ0 (g++[.ins 13 [(Str.ofString "table",.tup (rows.map .tup)),(Str.ofString "state",.int st),(Str.ofString "left",.ref (g.length+1))],.lst (revD L)]) (by simp [σ0,q1,pi3]) ?_
  have q2:Zv (.ref b) (g++[.ins 13 [(Str.ofString "table",.tup (rows.map .tup)),(Str.ofString "state",.int st),(Str.ofString "left",.ref (g.length+1))],.lst (revD L)])=.ok (.ref (g.length+2)) (g++[.ins 13 [(Str.ofString "table",.tup (rows.map .tup)),(Str.ofString "state",.int st),(Str.ofString "left",.ref (g.length+1))],.lst (revD L),.lst (revD R)]):=by rw [Jy (Zu h.b')]; simp [revD]
  refine Qg σ0 (g++[.ins 13 [(Str.ofString "table",.tup (rows.map .tup)),(Str.ofString "state",.int st),(Str.ofString "left",.ref (g.length+1)),(Str.ofString "right",.ref (g.length+2))],.lst (revD L),.lst (revD R)]) (by simp [σ0,q2,pi4]) ?_
  have q3:=QbB (gt2 (g:=g) (t:=[]) (q:=.ins 13 [(Str.ofString "table",.tup (rows.map .tup)),(Str.ofString "state",.int st),(Str.ofString "left",.ref (g.length+1)),(Str.ofString "right",.ref (g.length+2))]) (p:=.lst (revD L)) (o:=.lst (revD R)))
  refine Qg σ0 (g++[.ins 13 [(Str.ofString "table",.tup (rows.map .tup)),(Str.ofString "state",.int st),(Str.ofString "left",.ref (g.length+1)),(Str.ofString "right",.ref (g.length+2)),(Str.ofString "own",.int (Qk R))],.lst (revD L),.lst (revD R)]) (by simp [σ0,QgA,q3,pi5]) ?_
  have q4:=QdF (c:=1) (gt2 (g:=g) (t:=[]) (q:=.ins 13 [(Str.ofString "table",.tup (rows.map .tup)),(Str.ofString "state",.int st),(Str.ofString "left",.ref (g.length+1)),(Str.ofString "right",.ref (g.length+2)),(Str.ofString "own",.int (Qk R))]) (p:=.lst (revD L)) (o:=.lst (revD R))) zR
  rw [st2] at q4
  refine Qg σ0 (g++[.ins 13 [(Str.ofString "table",.tup (rows.map .tup)),(Str.ofString "state",.int st),(Str.ofString "left",.ref (g.length+1)),(Str.ofString "right",.ref (g.length+2)),(Str.ofString "own",.int (Qk R))],.lst (revD L),.lst (revD (Qo R 1))]) (by simp [σ0,QgB,q4]) ?_
  simp [σ0,pi6,fwO]
 refine⟨g.length,g.length+1,g.length+2,g++[fwO rows st (Qk R) 0 (g.length+1) (g.length+2),.lst (revD L),.lst (revD (Qo R 1))],?_,⟨gt0,gt1,gt2,by omega,by omega,by omega⟩,by omega,by omega,by omega,⟨by simp,fun k o _ e=>Zu e⟩⟩
 unfold QcV
 simp [v0,v1,Res.bind,hi]
theorem QkK {rows:List (List D)} {w l r:Nat} {g:G} {S:RowN} {mv:Int} (W:FRep rows w l r g S mv) (zR:S.R.length<900) :
  ∃ a b g',ZW [.ref w] g=.ok (.tup [.int S.st,.ref a,.ref b]) g'∧Keeps [] g g'∧g.length≤a∧a<b∧g'[a]?=some (.lst (stsD S.L))∧g'[b]?=some (.lst (stsD (putN S.R S.own 1))):=by
 have hw:=W.w'
 unfold fwO at hw
 refine⟨g.length+1,g.length+2,g++[.lst (revD (putN S.R S.own 1)),.lst (stsD S.L),.lst (stsD (putN S.R S.own 1))],Qz rfl ?_,⟨by simp,fun k o _ e=>Zu e⟩,by omega,by omega,gt1,gt2⟩
 show YD [some (.ref w),none] g=_
 unfold YD
 have q1:QfE (.ref r) g=.ok (.ref g.length) (g++[.lst (revD S.R)]):=by simp [QfE,W.r']
 refine Qg [some (.ref w),some (.ref g.length)] (g++[.lst (revD S.R)]) (by simp [hw,q1]) ?_
 have q2:=Qgz (sg:=S.own) (c:=1) (gt0 (g:=g) (t:=[]) (o:=.lst (revD S.R))) zR
 rw [st0] at q2
 refine Qg [some (.ref w),some (.ref g.length)] (g++[.lst (revD (putN S.R S.own 1))]) (by simp [Zu hw,q2]) ?_
 have q3:Zv (.ref l) (g++[.lst (revD (putN S.R S.own 1))])=.ok (.ref (g.length+1)) (g++[.lst (revD (putN S.R S.own 1)),.lst (stsD S.L)]):=by rw [Jy (Zu W.l')]; simp [revD]
 have q4:Zv (.ref g.length) (g++[.lst (revD (putN S.R S.own 1)),.lst (stsD S.L)])=.ok (.ref (g.length+2)) (g++[.lst (revD (putN S.R S.own 1)),.lst (stsD S.L),.lst (stsD (putN S.R S.own 1))]):=by rw [Jy gt0]; simp [revD]
 simp [Zu hw,q3,q4,pTup,SZ]
end L3
end
section
namespace L3
open PySem
theorem Jz {c:MT} {body:MS}:∀(f:Nat) (σ:S3) (g:G),Zq c body f σ g≠.stuck->∀ f',f≤f'->Zq c body f' σ g=Zq c body f σ g
 | 0,_,_,h,_,_=>absurd rfl h
 | f+1,σ,g,h,f',hf=>by
  obtain⟨k,rfl⟩:∃ k,f'=k+1:=⟨f' - 1,by omega⟩
  unfold Zq at h ⊢
  cases hc:c σ g with
  | stuck=>rfl
  | raise e g1=>rfl
  | ok b g1 =>
   cases b with
   | false=>rfl
   | true =>
    rw [hc] at h
    dsimp only at h ⊢
    cases hb:body σ g1 with
    | nx σ2 g2=>rw [hb] at h; exact Jz f σ2 g2 h k (by omega)
    | ct σ2 g2=>rw [hb] at h; exact Jz f σ2 g2 h k (by omega)
    | bk σ2 g2=>rfl
    | rt d g2=>rfl
    | raise e σ2 g2=>rfl
    | stuck=>rfl
theorem Qai {c:MT} {body:MS} {f:Nat} {σ:S3} {g:G} {R:Out} (h:Zq c body f σ g=R) (hR:R≠.stuck):QaB c body σ g=R:=by
 have hx:∃ f,Zq c body f σ g≠.stuck:=⟨f,by rw [h]; exact hR⟩
 unfold QaB
 rw [dif_pos hx]
 have h1:=hx.choose_spec
 rcases Nat.le_total f hx.choose with z | z
 ·rw [Jz f σ g (by rw [h]; exact hR) _ z,h]
 ·rw [← Jz _ σ g h1 f z,h]
end L3
end
section
namespace L3
open PySem
theorem Keeps.over {S:List Nat} {g g1 g2:G} (a:Keeps [] g g1) (b:Keeps S g1 g2) (h:∀ n∈S,g.length≤n):Keeps [] g g2 :=
 ⟨Nat.le_trans a.len b.len,fun n o _ e=>b.at' n o (fun z=>by have:=h n z; have:=YN e; omega) (a.at' n o (by simp) e)⟩
theorem Qer {d:D} {S:RowN} {w:Int} {r:RowN×Int×Int} (h:Yr d S w=some r):r.1.L.length+r.1.R.length≤S.L.length+S.R.length+1:=by
 unfold Yr at h
 split at h
 ·rename_i a y b
  cases h
  split
  ·have:=Js S.L a (Qs b S.st S.R S.own w)
   have:=ZX S.R (Qs b S.st S.R S.own w - 1)
   have:=ZX (Qo S.R (Qs b S.st S.R S.own w - 1)) 1
   dsimp only; omega
  ·have:=Js S.R a (Qs b S.st S.L S.own w)
   have:=ZX S.L (Qs b S.st S.L S.own w - 1)
   have:=ZX (Qo S.L (Qs b S.st S.L S.own w - 1)) 1
   dsimp only; omega
 ·cases h
noncomputable def Qe5:MT:=(JO (Qh (mOp2 pLt (mVar 5) (mVar 2))) (Qh (mOp2 J4 (QbQ 13 (Str.ofString "entry") Q3 (mVar 4) mNil) (mLit .non))))
noncomputable def YQ (M:Nat) (d:D) (steps most:Int) (w:Nat) (done leaps:Int):S3:=[some (.ref M),some d,some (.int steps),some (.int most),some (.ref w),some (.int done),some (.int leaps)]
theorem Qdf {rows:List (List D)} {n m M w l r:Nat} {d:D} {steps most:Int} (T:Tb rows n m):∀(k:Nat) (S:RowN) (g:G) (done leaps mv:Int),OkN n m S->FRep rows w l r g S mv->leaps+k=most->S.L.length+S.R.length+k<800 ->
  ∃ g',Keeps [w,l,r] g g'∧(match runN rows k S (steps - done) with
   | some q=>Zq Qe5 QJ (k+2) (YQ M d steps most w done leaps) g=.nx (YQ M d steps most w (done+q.2.2.1) (leaps+q.2.2.2)) g'∧FRep rows w l r g' q.1 (mv+q.2.1)∧q.1.L.length+q.1.R.length≤S.L.length+S.R.length+k
   | none=>∃ σ',Zq Qe5 QJ (k+2) (YQ M d steps most w done leaps) g=.raise (6,none) σ' g')
 | k,S,g,done,leaps,mv,ho,W,hm,hz=>by
  have h0:=ho.o0; have h1:=ho.o1
  obtain⟨row,e,_,_,he,hat⟩:=T.at ho.st (c:=S.own.toNat) (by omega)
  have hw:=W.w'
  unfold fwO at hw
  have e0:=Qeq W h0 hat
  unfold Zq
  have tc:Qe5 (YQ M d steps most w done leaps) g=.ok (decide (done<steps) && !isNon e) g:=by
   unfold Qe5 YQ
   by_cases z:done<steps <;> simp [z,hw,e0,J4]
  have hN:∀ u,Jr rows S u=Yr e S u:=fun u=>by unfold Jr; rw [hat]; rfl
  by_cases z:done<steps
  ·rcases he with rfl | ⟨a,b,y,rfl,he⟩
   ·rw [QbA (by rw [hN]; rfl)]
    refine⟨g,.refl,?_,by simpa using W,by dsimp only; omega⟩
    rw [tc,decide_eq_true z]; simp [isNon]
   ·have he':entOk (.tup [.int a,.str y,.int b]) n m:=.inr ⟨a,b,y,rfl,he⟩
    have tt:Qe5 (YQ M d steps most w done leaps) g=.ok true g:=by rw [tc,decide_eq_true z]; rfl
    rw [tt]
    dsimp only
    obtain⟨rr,hl⟩:∃ rr,Yr (.tup [.int a,.str y,.int b]) S (steps - done)=some rr:=⟨_,rfl⟩
    cases k with
    | zero =>
     rw [Qgv (by omega) ((hN _).trans hl)]
     refine⟨g,.refl,YQ M d steps most w done leaps,?_⟩
     have eb:QJ (YQ M d steps most w done leaps) g=.raise (6,none) (YQ M d steps most w done leaps) g:=by
      unfold QJ
      refine Qc6 (ift g ?_ ?_)
      ·unfold YQ; simp; omega
      ·simp [QdZ,SZ]
     rw [eb]
    | succ k =>
     obtain⟨g1,x1,x2,x3⟩:=Qi6 W he' h0 hat hl (by omega) (by omega)
     have hln:=Qer hl
     obtain⟨o1,s1,s2⟩:=QdE ho he' T.m0 (by omega) hl
     obtain⟨g2,k2,y2⟩:=Qdf (d:=d) (M:=M) (steps:=steps) (most:=most) T k rr.1 g1 (done+rr.2.1) (leaps+1) (mv+rr.2.2) o1 x2 (by omega) (by omega)
     have eb:QJ (YQ M d steps most w done leaps) g=.nx (YQ M d steps most w (done+rr.2.1) (leaps+1)) g1:=by
      unfold QJ
      refine Qg (YQ M d steps most w done leaps) g (iff' g ?_ rfl) (Qg (YQ M d steps most w (done+rr.2.1) leaps) g1 ?_ ?_)
      ·unfold YQ; simp; omega
      ·unfold YQ; simp [hw,x1]
      ·unfold YQ; simp
     refine⟨g2,x3.trans k2,?_⟩
     rw [eb]
     dsimp only
     rw [QaH (by omega) ((hN _).trans hl),show steps - done - rr.2.1=steps - (done+rr.2.1) by omega]
     cases hr:runN rows k rr.1 (steps - (done+rr.2.1)) with
     | none=>rw [hr] at y2; exact y2
     | some q =>
      rw [hr] at y2
      obtain⟨z1,z2,z3⟩:=y2
      dsimp only [Option.map]
      refine⟨?_,?_,by omega⟩
      ·rw [z1]; congr 2 <;> omega
      ·rw [← Int.add_assoc]; exact z2
  ·rw [Qbz (by omega)]
   refine⟨g,.refl,?_,by simpa using W,by dsimp only; omega⟩
   rw [tc,decide_eq_false z]; simp
theorem Qi8 {rows:List (List D)} {n m M k:Nat} {d:D} {steps:Int} {g:G} {st:Nat} {L R:Sts} {a b:Nat} (T:Tb rows n m) (hM:g[M]?=some (Jo rows)) (h:StR n m g d st L R a b) (hz:L.length+R.length+k<800) :
  ∃ g',Keeps [] g g'∧(match runN rows k ⟨st,L,Qk R,Qo R 1⟩ steps with
   | some q=>∃ a' b',Y0 [.ref M,d,.int steps,.int k] g=.ok (.tup [.tup [.int q.1.st,.ref a',.ref b'],.int q.2.1,.int q.2.2.1,.int q.2.2.2]) g'∧StR n m g' (.tup [.int q.1.st,.ref a',.ref b']) q.1.st q.1.L (putN q.1.R q.1.own 1) a' b'∧q.1.L.length+q.1.R.length≤L.length+R.length+k
   | none=>Y0 [.ref M,d,.int steps,.int k] g=.raise (6,none) g'):=by
 obtain⟨g1,e1,k1⟩:=QcA T hM h (by omega) (by omega)
 have hM1:=k1.at' _ _ (by simp) hM
 obtain⟨w,l,r,g2,e2,W2,w1,w2,w3,k2⟩:=Qi7 (σ:=[some (.ref M),some d,some (.int steps),some (.int k),none,none,none]) hM1 (h.mono k1) (by omega) rfl rfl
 have hn:=JY h.R' T.m0
 have ho:OkN n m ⟨st,L,Qk R,Qo R 1⟩:=⟨h.s',hn.1,hn.2,h.L',QW h.R'⟩
 have hdl:=ZX R 1
 obtain⟨g3,k3,y3⟩:=Qdf (M:=M) (d:=d) (steps:=steps) (most:=k) T k _ g2 0 0 0 ho W2 (by omega) (by dsimp only; omega)
 rw [Int.sub_zero] at y3
 have hk3:Keeps [] g g3:=(k1.trans k2).over k3 (fun x hx=>by have:=k1.len; simp at hx; rcases hx with rfl | rfl | rfl <;> omega)
 have hpre:∀ R',mSeq (QaB Qe5 QJ) (mRet (mOpA pTup (Qb (QbQ 13 (Str.ofString "row") ZW (mVar 4) mNil) (Qb (ZO [13] (Str.ofString "moved") (mVar 4)) (Qb (mVar 5) (Qb (mVar 6) mNil)))))) (YQ M d steps k w 0 0) g2=R'->JU [some (.ref M),some d,some (.int steps),some (.int k),none,none,none] g=R':=fun R' hR=>by
  unfold JU
  exact Qg _ g1 (by simp [e1]) (Qg [some (.ref M),some d,some (.int steps),some (.int k),some (.ref w),none,none] g2 (Ze e2) (Qg [some (.ref M),some d,some (.int steps),some (.int k),some (.ref w),some (.int 0),none] g2 rfl (Qg (YQ M d steps k w 0 0) g2 rfl hR)))
 cases hr:runN rows k ⟨st,L,Qk R,Qo R 1⟩ steps with
 | none =>
  rw [hr] at y3
  obtain⟨σ',y3⟩:=y3
  exact⟨g3,hk3,Qgo rfl (hpre _ (Qc6 (Qai y3 (by intro z; cases z))))⟩
 | some q =>
  rw [hr] at y3
  obtain⟨y4,W3,hln⟩:=y3
  dsimp only at hln
  obtain⟨a',b',g4,e4,k4,l1,l2,a4,b4⟩:=QkK W3 (by omega)
  have h3:=Qgx T k _ steps q ho
  have hq:OkN n m q.1:=by
   by_cases z:0≤steps
   ·exact(h3 z hr).1
   ·rw [Qbz (by omega)] at hr; cases hr; exact ho
  refine⟨g4,hk3.trans k4,a',b',Qz rfl (hpre _ (Qg _ g3 (Qai y4 (by intro z; cases z)) ?_)),⟨rfl,a4,b4,hq.L,Y5 hq.R hq.o0 hq.o1,hq.st⟩,by omega⟩
  have hw:=W3.w'
  unfold fwO at hw
  have hw4:=k4.at' _ _ (by simp) hw
  unfold YQ
  simp [hw,e4,hw4,pTup,SZ]
end L3
end
section
namespace L3
open PySem
inductive Sm (g:G):Nat->D->D->Prop
 | int (f:Nat) (i:Int):Sm g (f+1) (.int i) (.int i)
 | seq (f:Nat) (x y:D) (b:Bool) (xs ys:List D) (h1:QE g x=some (b,xs)) (h2:QE g y=some (b,ys)) (hl:xs.length=ys.length) (hz:xs.length≤1000) (hi:∀(i:Nat) u v,xs[i]?=some u->ys[i]?=some v->Sm g f u v):Sm g (f+1) x y
theorem Ya {g g1:G} {x:D} {p:Bool×List D} (h:QE g x=some p) (k:Keeps [] g g1):QE g1 x=some p:=by
 cases x with
 | ref n =>
  unfold QE at h ⊢
  dsimp only at h ⊢
  cases hg:g[n]? with
  | none=>rw [hg] at h; cases h
  | some o =>
   rw [hg] at h
   rw [k.at' _ _ (by simp) hg]
   exact h
 | _=>exact h
theorem Qes {g:G} {x:D} {b:Bool} {xs:List D} (h:QE g x=some (b,xs)):tyOf g x=some (if b then .list else .tuple):=by
 cases x with
 | ref n =>
  unfold QE at h
  unfold tyOf
  dsimp only at h ⊢
  cases hg:g[n]? with
  | none=>rw [hg] at h; cases h
  | some o =>
   rw [hg] at h
   cases o with
   | lst ds=>cases h; rfl
   | _=>cases h
 | tup ds=>cases h; rfl
 | fl ds=>cases h; rfl
 | _=>cases h
theorem QgD {g:G} {x:D} {b:Bool} {xs:List D} (h:QE g x=some (b,xs)):pLen x g=.ok (.int xs.length) g:=by
 cases x with
 | ref n =>
  unfold QE at h
  unfold pLen
  dsimp only at h ⊢
  cases hg:g[n]? with
  | none=>rw [hg] at h; cases h
  | some o =>
   rw [hg] at h
   cases o with
   | lst ds=>cases h; rfl
   | _=>cases h
 | tup ds=>cases h; rfl
 | fl ds=>cases h; rfl
 | _=>cases h
theorem Qet:∀ n:Nat,allB (List.replicate n (.bl true))=some true
 | 0=>rfl
 | n+1=>by rw [List.replicate_succ]; unfold allB; rw [Qet n]; rfl
theorem QdI {g:G}:∀ {f:Nat} {x y:D},Sm g f x y->∀ g1,Keeps [] g g1->∃ g2,ZL f [x,y] g1=.ok (.bl true) g2∧Keeps [] g1 g2
 | 0,_,_,h,_,_=>by cases h
 | f+1,x,y,h,g1,k=>by
  cases h with
  | int _ i =>
   refine⟨g1,Qz rfl ?_,.refl⟩
   show J9 (ZL f) [some (.int i),some (.int i)] g1=_
   unfold J9
   refine Qg [some (.int i),some (.int i)] g1 rfl (Qg [some (.int i),some (.int i)] g1 rfl (Qg [some (.int i),some (.int i)] g1 rfl (Qbw ?_)))
   have e:pEq (.int i) (.int i) g1=.ok (.bl true) g1:=by unfold pEq eqT; dsimp only; rw [beq_self_eq_true]
   show mOp2 pEq (mVar 0) (mVar 1) [some (.int i),some (.int i)] g1=_
   exact JJ (x:=.int i) (y:=.int i) (g1:=g1) (g2:=g1) rfl rfl e
  | seq _ _ _ b xs ys h1 h2 hl hz hi =>
   have s1:=Ya h1 k
   have s2:=Ya h2 k
   obtain⟨src,e1,e2,e3⟩:=Qi2 s1 s2 hl
   obtain⟨ds,σ',g2,c1,c2,c3,_⟩:=YO (src:=src) (t:=YJ [gSet 0,gSet 1]) (c:=Jb) (e:=Qn (ZL f) (Qb (mVar 0) (Qb (mVar 1) mNil))) (n:=xs.length)
    (fun i σ' g4 acc=>acc=List.replicate i (.bl true)∧Keeps [] g1 g4∧∃ u v,σ'=[u,v]) (fun i σ' g4 acc hi' hQ=>by
     obtain⟨q1,q2,u,v,q3⟩:=hQ
     subst q3
     have hy:i<ys.length:=by omega
     obtain⟨g5,a1,a2⟩:=QdI (hi i xs[i] ys[i] (by simp [hi']) (by simp [hy])) g4 (k.trans q2)
     refine⟨.tup [xs[i],ys[i]],[some xs[i],some ys[i]],g4,(e3 g4 (Ya s1 q2) (Ya s2 q2)).2 i _ _ (by simp [hi']) (by simp [hy]),rfl,.inl ⟨.bl true,g5,rfl,?_,?_,q2.trans a2,_,_,rfl⟩⟩
     ·rw [Zx (ds:=[xs[i],ys[i]]) (g':=g4) rfl]; exact a1
     ·rw [q1,List.replicate_succ']) (fun σ g4 acc hQ=>(e3 g4 (Ya s1 hQ.2.1) (Ya s2 hQ.2.1)).1) (src.top+1) 0 [none,none] g1 [] (by omega) (by omega) ⟨rfl,.refl,none,none,rfl⟩
   subst c2
   have c4:=Qgq (it:=QaC (mVar 0) (mVar 1)) (n:=2) (cap:=[]) (σ:=[some x,some y]) (t:=YJ [gSet 0,gSet 1]) (c:=Jb) (σ0:=[none,none]) (g:=g1) (by
    unfold QaC
    rw [show mVar 0 [some x,some y] g1=.ok x g1 from rfl,Res.bind_ok,show mVar 1 [some x,some y] g1=.ok y g1 from rfl,Res.bind_ok]
    exact e1) (by rw [e2]; exact Nat.le_of_lt (Qc8 hz)) rfl c1
   have kk:Keeps [] g2 (g2++[.lst (List.replicate xs.length (.bl true))]):=.push _
   refine⟨_,Qz rfl ?_,c3.trans kk⟩
   show J9 (ZL f) [some x,some y] g1=_
   have ty1:=Qes s1
   have ty2:=Qes s2
   have is0:∀ c:Ty,mOp1 (ZP c) (mVar 0) [some x,some y] g1=.ok (.bl (tyLe (if b then .list else .tuple) c)) g1:=fun c=>Qaf (x:=x) (g1:=g1) rfl (by unfold ZP; rw [ty1])
   have is1:∀ c:Ty,mOp1 (ZP c) (mVar 1) [some x,some y] g1=.ok (.bl (tyLe (if b then .list else .tuple) c)) g1:=fun c=>Qaf (x:=y) (g1:=g1) rfl (by unfold ZP; rw [ty2])
   have ne:∀ c:Ty,Qh (mOp2 pNe (mOp1 (ZP c) (mVar 0)) (mOp1 (ZP c) (mVar 1))) [some x,some y] g1=.ok false g1:=fun c=>JW (JJ (is0 c) (is1 c) (by unfold pNe neT; dsimp only; rw [beq_self_eq_true]; rfl))
   have t1:mOrT (Qh (mOp1 (ZP .list) (mVar 1))) (Qh (mOp1 (ZP .tuple) (mVar 1))) [some x,some y] g1=.ok true g1:=by
    unfold mOrT
    rw [JW (is1 .list),Res.bind_ok,JW (is1 .tuple)]
    cases b <;> rfl
   have e5:mOp2 pEq (mOp1 pLen (mVar 0)) (mOp1 pLen (mVar 1)) [some x,some y] g1=.ok (.bl true) g1:=JJ (x:=.int xs.length) (y:=.int ys.length) (g1:=g1) (g2:=g1) (Qaf (x:=x) (g1:=g1) rfl (QgD s1)) (Qaf (x:=y) (g1:=g1) rfl (QgD s2)) (by unfold pEq eqT; dsimp only; rw [hl,beq_self_eq_true])
   unfold J9
   refine Y9 (ift g1 t1 (Qg [some x,some y] g1 (iff' g1 (Qlq (ne .list) (ne .tuple)) rfl) (Qbw ?_)))
   unfold mAnd
   rw [e5,Res.bind_ok]
   dsimp only
   rw [if_pos rfl]
   refine Qaf c4 ?_
   unfold pAll
   dsimp only
   rw [QN]
   dsimp only
   rw [Qet]
theorem Qi9 (g:G) (f:Nat) (p:Int×Int):Sm g (f+2) (stD p) (stD p):=.seq _ _ _ false [.int p.1,.int p.2] [.int p.1,.int p.2] rfl rfl rfl (by simp) (fun i u v h1 h2=>by
 match i,h1,h2 with
 | 0,h1,h2=>cases h1; cases h2; exact .int _ _
 | 1,h1,h2=>cases h1; cases h2; exact .int _ _
 | i+2,h1,_=>simp at h1)
theorem QgE {g:G} {f:Nat} {x y:D} {b:Bool} {M:List (Int×Int)} (h1:QE g x=some (b,M.map stD)) (h2:QE g y=some (b,M.map stD)) (hz:M.length≤1000):Sm g (f+3) x y:=.seq _ _ _ b _ _ h1 h2 rfl (by rw [List.length_map]; exact hz) (fun i u v e1 e2=>by
 rw [e1] at e2
 cases e2
 rw [List.getElem?_map] at e1
 cases hm:M[i]? with
 | none=>rw [hm] at e1; cases e1
 | some p=>rw [hm] at e1; cases e1; exact Qi9 g f p)
theorem Qeu {f:Nat} {g:G} {a b c d:Nat} {st:Int} {L R:Sts} (ha:g[a]?=some (.lst (stsD L))) (hb:g[b]?=some (.lst (stsD R))) (hc:g[c]?=some (.lst (stsD L))) (hd:g[d]?=some (.lst (stsD R))) (hL:L.length≤1000) (hR:R.length≤1000) :
  Sm g (f+4) (.tup [.int st,.ref a,.ref b]) (.tup [.int st,.ref c,.ref d]):=.seq _ _ _ false _ _ rfl rfl rfl (by simp) (fun i u v h1 h2=>by
 match i,h1,h2 with
 | 0,h1,h2=>cases h1; cases h2; exact .int _ _
 | 1,h1,h2=>cases h1; cases h2; exact QgE (f:=f) (JX ha) (JX hc) hL
 | 2,h1,h2=>cases h1; cases h2; exact QgE (f:=f) (JX hb) (JX hd) hR
 | i+3,h1,_=>simp at h1)
end L3
end
section
namespace L3
open PySem
theorem Qev {f:List D->G->Res D} {a:MA} {σ:S3} {xs:List D} {g g1:G} {R:Res D} (ha:a σ g=.ok xs g1) (h:f xs g1=R):mOpA f a σ g=R:=by unfold mOpA; rw [ha,Res.bind_ok,h]
section
variable {σ:S3} {g:G}
@[simp] theorem QlO {ds:List D}:newL ds g=if ds.length≤SZ then .ok (.ref g.length) (g++[.lst ds]) else .stuck:=rfl
@[simp] theorem Qja {ds:List D}:pTup ds g=if ds.length≤SZ then .ok (.tup ds) g else .stuck:=rfl
@[simp] theorem QgF:ZG σ g=.ok none g:=rfl
@[simp] theorem Qjb {a:ME}:JD a σ g=(match a σ g with | .ok (.int i) g1=>.ok (some i) g1 | .raise e g'=>.raise e g' | _=>.stuck):=by unfold JD Res.bind; cases a σ g with | ok d g1=>cases d <;> rfl | _=>rfl
@[simp] theorem QhC {a:ME} {lo hi:MO}:Yg a lo hi σ g=(match a σ g with
 | .ok x g1=>(match lo σ g1 with
  | .ok l g2=>(match hi σ g2 with | .ok h g3=>J5 x l h g3 | .raise e g'=>.raise e g' | .stuck=>.stuck)
  | .raise e g'=>.raise e g' | .stuck=>.stuck)
 | .raise e g'=>.raise e g' | .stuck=>.stuck):=by
 unfold Yg Res.bind; cases a σ g with
 | ok x g1=>dsimp only; cases lo σ g1 with
  | ok l g2=>dsimp only; cases hi σ g2 <;> rfl
  | _=>rfl
 | _=>rfl
theorem Qew {s:Nat} {xs:List D} (h:g[s]?=some (.lst xs)):pEq (.ref s) (.ref g.length) (g++[.lst []])=.ok (.bl xs.isEmpty) (g++[.lst []]):=by
 have h1:=Zu (t:=[.lst []]) h
 unfold pEq eqT
 dsimp only
 rw [h1,QN]
 cases xs <;> rfl
theorem QgG {s:Nat} {xs:List D} (h:g[s]?=some (.lst xs)):pNe (.ref s) (.ref g.length) (g++[.lst []])=.ok (.bl (!xs.isEmpty)) (g++[.lst []]):=by
 have h1:=Zu (t:=[.lst []]) h
 unfold pNe neT
 dsimp only
 rw [h1,QN]
 cases xs <;> rfl
theorem QcB {s:Nat} {d:D} {xs:List D} (h:g[s]?=some (.lst (d::xs))):pIx (.ref s) (.int 0) g=.ok d g:=Qb8 (p:=0) h rfl
theorem QgH {a b:Nat} {xs ys:List D} (ha:g[a]?=some (.lst xs)) (hb:g[b]?=some (.lst ys)) (hz:xs.length+ys.length≤1000):pAdd (.ref a) (.ref b) g=.ok (.ref g.length) (g++[.lst (xs++ys)]):=by
 have:xs.length+ys.length≤SZ:=Nat.le_of_lt (Qc8 hz)
 simp [pAdd,ha,hb,this]
theorem Qh9 {e r:ME} {d:D} {b:Nat} {ys:List D} {g3:G} (he:e σ g=.ok d g) (hr:r σ (g++[.lst [d]])=.ok (.ref b) g3) (k:Keeps [] (g++[.lst [d]]) g3) (hb:g3[b]?=some (.lst ys)) (hz:ys.length≤900):mOp2 pAdd (mOpA newL (Qb e mNil)) r σ g=.ok (.ref g3.length) (g3++[.lst (d::ys)]):=by
 have h1:=k.at' _ _ (by simp) (QN (g:=g) (.lst [d]))
 exact JJ (Qev (Y3 he rfl) (by simp [SZ])) hr (QgH h1 hb (by simp; omega))
theorem Qia {s:Nat} {xs:List D} (h:g[s]?=some (.lst xs)):J5 (.ref s) (some 1) none g=.ok (.ref g.length) (g++[.lst (xs.drop 1)]):=by unfold J5; dsimp only; rw [h]; dsimp only; rw [cut1]
end
section
variable {s:Nat} {side:Sts} {g:G}
theorem QcC {sg c:Int} (hs:g[s]?=some (.lst (stsD side))) (hc:0≤c) (hz:side.length<900):∃ s' g',Jm [.ref s,.int sg,.int c] g=.ok (.ref s') g'∧g'[s']?=some (.lst (stsD (putN side sg c)))∧Keeps [] g g':=by
 by_cases c0:c=0
 ·subst c0
  exact⟨s,g,Qz rfl (by simp [Qbq]),by rw [Qen]; exact hs,.refl⟩
 ·have hc1:¬ c<1:=by omega
  by_cases hn:sg=0∧side=[]
  ·obtain⟨rfl,rfl⟩:=hn
   exact⟨s,g++[.lst []],Qz rfl (by simp [Qbq,c0,SZ,Qew hs,stsD]),by simp [putN]; exact Zu hs,.push _⟩
  ·obtain⟨g1,t1,k1⟩:∃ g1,mOrT (Qh (mOp2 pEq (mVar 2) (mLit (.int 0)))) (JO (Qh (mOp2 pEq (mVar 1) (mLit (.int 0)))) (Qh (mOp2 pEq (mVar 0) (mOpA newL mNil)))) [some (.ref s),some (.int sg),some (.int c)] g=.ok false g1∧Keeps [] g g1:=by
    by_cases h0:sg=0
    ·have:side≠[]:=fun e=>hn ⟨h0,e⟩
     exact⟨g++[.lst []],by simp [c0,h0,SZ,Qew hs,stsD,this],.push _⟩
    ·exact⟨g,by simp [c0,h0],.refl⟩
   have hs1:=k1.at' _ _ (by simp) hs
   have hs2:=Zu (t:=[.lst []]) hs1
   have k2:Keeps [] g1 (g1++[.lst []]):=.push _
   have hne:=QgG hs1
   have hfin:∀ R,mSeq (mIf (JO (Qh (mOp2 pNe (mVar 0) (mOpA newL mNil))) (Qh (mOp2 pEq (mOp2 pIx (mOp2 pIx (mVar 0) (mLit (.int 0))) (mLit (.int 0))) (mVar 1)))) (mRet (mOp2 pAdd (mOpA newL (Qb (mOpA pTup (Qb (mVar 1) (Qb (mOp2 pAdd (mOp2 pIx (mOp2 pIx (mVar 0) (mLit (.int 0))) (mLit (.int 1))) (mVar 2)) mNil))) mNil)) (Yg (mVar 0) (JD (mLit (.int 1))) ZG))) Qy)
     (mRet (mOp2 pAdd (mOpA newL (Qb (mOpA pTup (Qb (mVar 1) (Qb (mVar 2) mNil))) mNil)) (mVar 0))) [some (.ref s),some (.int sg),some (.int c)] g1=R->Qbq [some (.ref s),some (.int sg),some (.int c)] g=R:=fun R hR=>by
    unfold Qbq
    exact Qg _ g1 (iff' g1 t1 rfl) hR
   have tt:Qh (mOp2 pNe (mVar 0) (mOpA newL mNil)) [some (.ref s),some (.int sg),some (.int c)] g1=.ok (!(stsD side).isEmpty) (g1++[.lst []]):=by simp [SZ,hne]
   generalize g1++[GO.lst []]=g2 at hs2 k2 tt
   have kk:=k1.trans k2
   have cat:∀ d,mOpA pTup (Qb (mVar 1) (Qb (mVar 2) mNil)) [some (.ref s),some (.int sg),some (.int c)] g2=.ok d g2->mRet (mOp2 pAdd (mOpA newL (Qb (mOpA pTup (Qb (mVar 1) (Qb (mVar 2) mNil))) mNil)) (mVar 0)) [some (.ref s),some (.int sg),some (.int c)] g2=.rt (.ref (g2++[GO.lst [d]]).length) (g2++[.lst [d]]++[.lst (d::stsD side)]):=fun d hd=>Qbw (Qh9 hd rfl .refl (Zu hs2) (by simp [stsD]; omega))
   cases side with
   | nil =>
    have h0:¬ sg=0:=fun e=>hn ⟨e,rfl⟩
    refine⟨_,_,Qz rfl (hfin _ (Qg _ g2 (iff' g2 ?_ rfl) (cat (stD (sg,c)) (by simp [SZ,stD])))),?_,kk.trans ((Keeps.push _).trans (.push _))⟩
    ·rw [QdC,tt]; rfl
    ·rw [QN]; simp [putN,hc1,h0,stsD]
   | cons p r =>
    obtain⟨u,k⟩:=p
    have hx:pIx (.ref s) (.int 0) g2=.ok (stD (u,k)) g2:=QcB hs2
    by_cases hu:u=sg
    ·subst hu
     have he:mOpA pTup (Qb (mVar 1) (Qb (mOp2 pAdd (mOp2 pIx (mOp2 pIx (mVar 0) (mLit (.int 0))) (mLit (.int 1))) (mVar 2)) mNil)) [some (.ref s),some (.int u),some (.int c)] g2=.ok (stD (u,k+c)) g2:=by simp [hx]; simp [stD,SZ]
     have hs3:=Zu (t:=[.lst [stD (u,k+c)]]) hs2
     have hsl:Yg (mVar 0) (JD (mLit (.int 1))) ZG [some (.ref s),some (.int u),some (.int c)] (g2++[.lst [stD (u,k+c)]])=.ok (.ref (g2++[GO.lst [stD (u,k+c)]]).length) (g2++[.lst [stD (u,k+c)]]++[.lst (stsD r)]):=Qia hs3
     refine⟨_,_,Qz rfl (hfin _ (Y9 (ift g2 ?_ (Qbw (Qh9 (ys:=stsD r) he hsl (.push _) (QN _) (by simp at hz; simp [stsD]; omega)))))),?_,kk.trans (((Keeps.push _).trans (.push _)).trans (.push _))⟩
     ·rw [QdC,tt]; simp [hx,stsD]; simp [stD]
     ·rw [QN]; simp [putN,hc1,stsD]
    ·refine⟨_,_,Qz rfl (hfin _ (Qg _ g2 (iff' g2 ?_ rfl) (cat (stD (sg,c)) (by simp [SZ,stD])))),?_,kk.trans ((Keeps.push _).trans (.push _))⟩
     ·rw [QdC,tt]; simp [hx,stsD]; simp [stD,hu]
     ·rw [QN]; simp [putN,hc1,hu,stsD]
theorem Qa3 {m:Int} {c:Int} (hs:g[s]?=some (.lst (stsD side))) (hG:Zy m side) (hc:0≤c) (hz:side.length<900):∃ s' g',YG [.ref s,.int c] g=.ok (.ref s') g'∧g'[s']?=some (.lst (stsD (Qo side c)))∧Keeps [] g g':=by
 have he:=Qew hs
 have hs1:=Zu (t:=[.lst []]) hs
 have k1:Keeps [] g (g++[.lst []]):=.push _
 have te:Qh (mOp2 pEq (mVar 0) (mOpA newL mNil)) [some (.ref s),some (.int c),none,none] g=.ok (stsD side).isEmpty (g++[.lst []]):=by simp [SZ,he]
 generalize g++[GO.lst []]=g1 at hs1 k1 te
 have ho:mOrT (Qh (mOp2 pEq (mVar 0) (mOpA newL mNil))) (Qh (mOp2 pEq (mVar 1) (mLit (.int 0)))) [some (.ref s),some (.int c),none,none] g=.ok ((stsD side).isEmpty || c == 0) g1:=by rw [Qh6,te]; cases (stsD side).isEmpty <;> simp
 cases side with
 | nil=>exact⟨s,g1,Qz rfl (Y9 (ift g1 ho rfl)),hs1,k1⟩
 | cons p r =>
  obtain⟨u,k⟩:=p
  by_cases c0:c=0
  ·subst c0
   exact⟨s,g1,Qz rfl (Y9 (ift g1 ho rfl)),by rw [Jq hG]; exact hs1,k1⟩
  ·have hk:=hG.2.2.1
   have hd:Qo ((u,k)::r) c=if k - c<1 then r else (u,k - c)::r:=Y4 hG.2.2.2.1
   have hx:pIx (.ref s) (.int 0) g1=.ok (.tup [.int u,.int k]) g1:=QcB hs1
   have hno:mOrT (Qh (mOp2 pEq (mVar 0) (mOpA newL mNil))) (Qh (mOp2 pEq (mVar 1) (mLit (.int 0)))) [some (.ref s),some (.int c),none,none] g=.ok false g1:=by rw [ho]; simp [stsD,c0]
   let σ1:S3:=[some (.ref s),some (.int c),some (.int u),some (.int k)]
   have e2:mOpA newL (Qb (mOpA pTup (Qb (mVar 2) (Qb (mOp2 pSub (mVar 3) (mVar 1)) mNil))) mNil) σ1 g1=.ok (.ref g1.length) (g1++[.lst [stD (u,k - c)]]):=by simp [σ1,SZ,stD]
   have kp:Keeps [] g1 (g1++[.lst [stD (u,k - c)]]):=.push _
   have gp:=QN (g:=g1) (.lst [stD (u,k - c)])
   generalize g1++[.lst [stD (u,k - c)]]=g2 at e2 kp gp
   generalize g1.length=n1 at e2 gp
   have hs2:=kp.at' _ _ (by simp) hs1
   obtain⟨zs,hzs,hzl,e3⟩:∃ zs:List D,zs++stsD r=stsD (Qo ((u,k)::r) c)∧zs.length≤1∧mOp2 pMul (mOpA newL (Qb (mOpA pTup (Qb (mVar 2) (Qb (mOp2 pSub (mVar 3) (mVar 1)) mNil))) mNil)) (mOp1 pInt (mOp2 pGt (mVar 3) (mVar 1))) σ1 g1=.ok (.ref g2.length) (g2++[.lst zs]):=by
    by_cases hkc:c<k
    ·refine⟨[stD (u,k - c)],by rw [hd,if_neg (by omega)]; rfl,by simp,?_⟩
     rw [Qc9,e2]
     simp [σ1,hkc,pInt,pMul,gp,SZ]
    ·refine⟨[],by rw [hd,if_pos (by omega)]; rfl,by simp,?_⟩
     rw [Qc9,e2]
     simp [σ1,hkc,pInt,pMul,gp,SZ]
   have hs3:=Zu (t:=[.lst zs]) hs2
   have gz:=QN (g:=g2) (.lst zs)
   have k3:Keeps [] g2 (g2++[.lst zs]):=.push _
   generalize g2.length=n2 at e3 gz
   generalize g2++[.lst zs]=g3 at e3 hs3 gz k3
   have e4:=Qia hs3
   have k4:Keeps [] g3 (g3++[.lst ((stsD ((u,k)::r)).drop 1)]):=.push _
   have gr:=QN (g:=g3) (.lst ((stsD ((u,k)::r)).drop 1))
   generalize g3.length=n3 at e4 gr
   generalize g3++[.lst ((stsD ((u,k)::r)).drop 1)]=g4 at e4 k4 gr
   have e5:=QgH (k4.at' _ _ (by simp) gz) gr (by simp at hz; simp [stsD]; omega)
   refine⟨g4.length,g4++[.lst (zs++(stsD ((u,k)::r)).drop 1)],Qz rfl (?_:Qdz [some (.ref s),some (.int c),none,none] g=_),?_,(((k1.trans kp).trans k3).trans k4).trans (.push _)⟩
   ·unfold Qdz
    refine Qg _ g1 (iff' g1 hno rfl) (Qg σ1 g1 ?_ (Qbw ?_))
    ·unfold mAsg
     rw [Qc9]
     simp [hx,YJ,Qch,gSet,σ1]
    ·exact JJ e3 (by simp [σ1,e4]) e5
   ·rw [QN]; simp [stsD] at hzs ⊢; exact hzs
theorem Qex {sg w:Int} (hs:g[s]?=some (.lst (stsD side))):∃ g',ZC [.ref s,.int sg,.int w] g=.ok (.int (Qm side sg w)) g'∧Keeps [] g g':=by
 have he:=Qew hs
 have hs1:=Zu (t:=[.lst []]) hs
 have k1:Keeps [] g (g++[.lst []]):=.push _
 have te:Qh (mOp2 pEq (mVar 0) (mOpA newL mNil)) [some (.ref s),some (.int sg),some (.int w)] g=.ok (stsD side).isEmpty (g++[.lst []]):=by simp [SZ,he]
 generalize g++[GO.lst []]=g1 at hs1 k1 te
 refine⟨g1,Qz rfl (?_:Qar [some (.ref s),some (.int sg),some (.int w)] g=_),k1⟩
 unfold Qar
 have c1:cM 1:=⟨by decide,by decide⟩
 have c0:cM 0:=⟨by decide,by decide⟩
 cases side with
 | nil =>
  refine Y9 (ift g1 te ?_)
  by_cases h0:sg=0
  ·simp [h0,pInt,pMul,c1,Qm,Qk]
  ·simp [h0,pInt,pMul,c0,Qm,Qk,Ne.symm h0]
 | cons p r =>
  obtain⟨u,k⟩:=p
  have hx:pIx (.ref s) (.int 0) g1=.ok (.tup [.int u,.int k]) g1:=QcB hs1
  refine Qg _ g1 (iff' g1 te rfl) ?_
  by_cases hu:u=sg
  ·simp [hx,hu,pInt,pMul,c1,Qm,Qk,Qdy]; split <;> split <;> omega
  ·simp [hx,hu,pInt,pMul,c0,Qm,Qk,Qdy]
end
end L3
end
section
namespace L3
open PySem
theorem QgI {s:Sts} {own w:Int} (hw:1≤w):Qm (putN s own 1) own w=1+Qm s own (w - 1):=by
 have h1:¬ w<1:=by omega
 cases s with
 | nil =>
  by_cases h0:own=0
  ·simp [putN,Qm,Qk,h0]; omega
  ·simp [putN,Qm,Qk,h0,Ne.symm h0,h1]
 | cons p r =>
  obtain⟨u,k⟩:=p
  by_cases hu:u=own
  ·simp [putN,Qm,Qk,hu]; split <;> split <;> omega
  ·simp [putN,Qm,Qk,hu,h1]
theorem Qib {N t:Nat} {g:G} {rows:List (List D)} {i j:Nat} {r:List D} {d:D} (h:tabOf N g t rows) (hr:rows[i]?=some r) (hd:r[j]?=some d):∃ x,pIx (.ref t) (.int i) g=.ok (.ref x) g∧pIx (.ref x) (.int j) g=.ok d g∧g[x]?=some (.lst r)∧N≤x∧x≠t:=by
 obtain⟨hN,ds,h1,h2,h3⟩:=h
 have hi:=(List.getElem?_eq_some_iff.mp hr).1
 have hx:ds[i]?=some (ds[i]'(by omega)):=by simp [show i<ds.length by omega]
 obtain⟨x,e,q1,q2,q3⟩:=h3 i _ r hx hr
 rw [e] at hx
 exact⟨x,Qb8 h1 hx,Qb8 q3 hd,q3,q1,q2⟩
theorem QgJ {σ:S3} {g:G} {s i:Nat} {side:Sts} (hv:σ[i]?=some (some (.ref s))) (hs:g[s]?=some (.lst (stsD side))):mIfE (Qh (mOp2 pNe (mVar i) (mOpA newL mNil))) (mOp2 pIx (mOp2 pIx (mVar i) (mLit (.int 0))) (mLit (.int 0))) (mLit (.int 0)) σ g=.ok (.int (Qk side)) (g++[.lst []]):=by
 have h1:=Zu (t:=[.lst []]) hs
 cases side with
 | nil=>simp [hv,SZ,QgG hs,stsD,Qk]
 | cons p r =>
  have hx:pIx (.ref s) (.int 0) (g++[.lst []])=.ok (.tup [.int p.1,.int p.2]) (g++[.lst []]):=QcB h1
  simp [hv,SZ,QgG hs,hx,stsD]; simp [Qk]
noncomputable def Qey:MS:=(mSeq (mAsg (gSet 11) (mIfE (Qh (mOp2 pEq (mVar 10) (mVar 3))) (Qn ZC (Qb (mVar 5) (Qb (mVar 6) (Qb (mVar 2) mNil)))) (mLit (.int 1))))
 (mSeq (mAsg (gSet 4) (Qn Jm (Qb (mVar 4) (Qb (mVar 8) (Qb (mVar 11) mNil)))))
 (mRet (mOpA pTup (Qb (mOpA pTup (Qb (mVar 10) (Qb (mVar 4) (Qb (Qn YG (Qb (mVar 5) (Qb (mVar 11) mNil))) mNil)))) (Qb (mVar 11) (Qb (mVar 11) mNil)))))))
noncomputable def Qez:MS:=(mSeq (mAsg (gSet 11) (mIfE (Qh (mOp2 pEq (mVar 10) (mVar 3))) (mOp2 pAdd (mLit (.int 1)) (Qn ZC (Qb (mVar 4) (Qb (mVar 6) (Qb (mOp2 pSub (mVar 2) (mLit (.int 1))) mNil))))) (mLit (.int 1))))
 (mSeq (mAsg (gSet 5) (Qn Jm (Qb (Qn YG (Qb (mVar 5) (Qb (mLit (.int 1)) mNil))) (Qb (mVar 8) (Qb (mVar 11) mNil)))))
 (mSeq (mAsg (gSet 4) (Qn YG (Qb (mVar 4) (Qb (mOp2 pSub (mVar 11) (mLit (.int 1))) mNil))))
 (mSeq (mAsg (gSet 12) (mIfE (Qh (mOp2 pNe (mVar 4) (mOpA newL mNil))) (mOp2 pIx (mOp2 pIx (mVar 4) (mLit (.int 0))) (mLit (.int 0))) (mLit (.int 0))))
 (mRet (mOpA pTup (Qb (mOpA pTup (Qb (mVar 10) (Qb (Qn YG (Qb (mVar 4) (Qb (mLit (.int 1)) mNil))) (Qb (Qn Jm (Qb (mVar 5) (Qb (mVar 12) (Qb (mLit (.int 1)) mNil)))) mNil)))) (Qb (mVar 11) (Qb (mOp1 pNeg (mVar 11)) mNil)))))))))
noncomputable def ZF (t:Nat) (d:D) (w:Int) (st:Nat) (a b:Nat) (own:Int) (e:D) (x8 x9 x10 x11 x12:Option D):S3:=[some (.ref t),some d,some (.int w),some (.int st),some (.ref a),some (.ref b),some (.int own),some e,x8,x9,x10,x11,x12]
section
variable {n m t:Nat} {rows:List (List D)} {g:G} {d:D} {st:Nat} {L R:Sts} {a b:Nat} {w:Int}
noncomputable def QdJ (n m:Nat) (g:G) (rr:RowN×Int×Int) (o:D) (g':G):Prop:=∃ a' b',o=.tup [.tup [.int rr.1.st,.ref a',.ref b'],.int rr.2.1,.int rr.2.2]∧StR n m g' (.tup [.int rr.1.st,.ref a',.ref b']) rr.1.st rr.1.L (putN rr.1.R rr.1.own 1) a' b'∧Keeps [] g g'
theorem QkL {x y:Int} {z:Str} (h:StR n m g d st L R a b) (hw:1≤w) (zL:L.length<900) (zR:R.length<900) (x0:0≤x) (x1:x<m) (y0:0≤y) (y1:y<n) :
  ∃ o g',Qey (ZF t d w st a b (Qk R) (.tup [.int x,.str z,.int y]) (some (.int x)) (some (.str z)) (some (.int y)) none none) g=.rt o g' ∧
   QdJ n m g (⟨y.toNat,putN L x (Qs y st (Qo R 1) (Qk R) w),Qk (Qo (Qo R 1) (Qs y st (Qo R 1) (Qk R) w - 1)),Qo (Qo (Qo R 1) (Qs y st (Qo R 1) (Qk R) w - 1)) 1⟩,Qs y st (Qo R 1) (Qk R) w,Qs y st (Qo R 1) (Qk R) w) o g':=by
 have hR1:Zy m (Qo R 1):=QW h.R'
 have hpd:putN (Qo R 1) (Qk R) 1=R:=Qa1 h.R'
 have hso:=Qa2 (b:=y) (st:=st) (own:=Qk R) hR1 hw
 obtain⟨g1,e1,k1⟩:∃ g1,mIfE (Qh (mOp2 pEq (mVar 10) (mVar 3))) (Qn ZC (Qb (mVar 5) (Qb (mVar 6) (Qb (mVar 2) mNil)))) (mLit (.int 1)) (ZF t d w st a b (Qk R) (.tup [.int x,.str z,.int y]) (some (.int x)) (some (.str z)) (some (.int y)) none none) g=.ok (.int (Qs y st (Qo R 1) (Qk R) w)) g1∧Keeps [] g g1:=by
  by_cases hy:y=(st:Int)
  ·obtain⟨g1,e1,k1⟩:=Qex (sg:=Qk R) (w:=w) h.b'
   refine⟨g1,?_,k1⟩
   have:Qm R (Qk R) w=1+Qm (Qo R 1) (Qk R) (w - 1):=by rw [← QgI hw,hpd]
   simp [ZF,hy,e1,Qs,this]
  ·exact⟨g,by simp [ZF,hy,Qs],.refl⟩
 have hcut:Qo R (Qs y st (Qo R 1) (Qk R) w)=Qo (Qo R 1) (Qs y st (Qo R 1) (Qk R) w - 1):=by
  have:=Qcv (t:=Qk R) (x:=Qs y st (Qo R 1) (Qk R) w - 1) hR1 (by
   by_cases hn:Qk (Qo R 1)=Qk R
   ·exact .inl hn
   ·right; unfold Qs Qm; rw [if_neg hn]; split <;> omega)
  rw [hpd] at this
  rw [← this]; congr 1; omega
 generalize hs:Qs y st (Qo R 1) (Qk R) w=s at *
 obtain⟨a',g2,e2,a2,k2⟩:=QcC (sg:=x) (c:=s) (k1.at' _ _ (by simp) h.a') (by omega) zL
 obtain⟨b',g3,e3,b3,k3⟩:=Qa3 (c:=s) ((k1.trans k2).at' _ _ (by simp) h.b') h.R' (by omega) zR
 have hgd:=QW (c:=s - 1) hR1
 refine⟨_,g3,?_,a',b',rfl,⟨rfl,k3.at' _ _ (by simp) a2,?_,Y5 h.L' x0 x1,?_,?_⟩,(k1.trans k2).trans k3⟩
 ·unfold Qey
  refine Qg (ZF t d w st a b (Qk R) (.tup [.int x,.str z,.int y]) (some (.int x)) (some (.str z)) (some (.int y)) (some (.int s)) none) g1 (Ze e1) (Qg (ZF t d w st a' b (Qk R) (.tup [.int x,.str z,.int y]) (some (.int x)) (some (.str z)) (some (.int y)) (some (.int s)) none) g2 ?_ ?_)
  ·simp [ZF,e2]
  ·rw [Int.toNat_of_nonneg y0]
   simp [ZF,e3,SZ]
 ·rw [b3,hcut,Qa1 hgd]
 ·rw [Qa1 hgd]; exact hgd
 ·show y.toNat<n; omega
theorem QkM {x y:Int} {z:Str} (h:StR n m g d st L R a b) (hm:0<m) (hw:1≤w) (zL:L.length<900) (zR:R.length<800) (x0:0≤x) (x1:x<m) (y0:0≤y) (y1:y<n) :
  ∃ o g',Qez (ZF t d w st a b (Qk R) (.tup [.int x,.str z,.int y]) (some (.int x)) (some (.str z)) (some (.int y)) none none) g=.rt o g' ∧
   QdJ n m g (⟨y.toNat,Qo (Qo L (Qs y st L (Qk R) w - 1)) 1,Qk (Qo L (Qs y st L (Qk R) w - 1)),putN (Qo R 1) x (Qs y st L (Qk R) w)⟩,Qs y st L (Qk R) w,-Qs y st L (Qk R) w) o g':=by
 have hR1:Zy m (Qo R 1):=QW h.R'
 have hso:=Qa2 (b:=y) (st:=st) (own:=Qk R) h.L' hw
 obtain⟨g1,e1,k1⟩:∃ g1,mIfE (Qh (mOp2 pEq (mVar 10) (mVar 3))) (mOp2 pAdd (mLit (.int 1)) (Qn ZC (Qb (mVar 4) (Qb (mVar 6) (Qb (mOp2 pSub (mVar 2) (mLit (.int 1))) mNil))))) (mLit (.int 1)) (ZF t d w st a b (Qk R) (.tup [.int x,.str z,.int y]) (some (.int x)) (some (.str z)) (some (.int y)) none none) g=.ok (.int (Qs y st L (Qk R) w)) g1∧Keeps [] g g1:=by
  by_cases hy:y=(st:Int)
  ·obtain⟨g1,e1,k1⟩:=Qex (sg:=Qk R) (w:=w - 1) h.a'
   exact⟨g1,by simp [ZF,hy,e1,Qs],k1⟩
  ·exact⟨g,by simp [ZF,hy,Qs],.refl⟩
 generalize hs:Qs y st L (Qk R) w=s at *
 have h1:=h.mono k1
 obtain⟨b1,g2,e2,b2,k2⟩:=Qa3 (c:=1) h1.b' h.R' (by omega) (by omega)
 have dl:=ZX R 1
 have dl2:=ZX L (s - 1)
 obtain⟨b3,g3,e3,b3',k3⟩:=QcC (sg:=x) (c:=s) b2 (by omega) (by omega)
 have pl:=Js (Qo R 1) x s
 have h3:=(h1.mono k2).mono k3
 obtain⟨a4,g4,e4,a4',k4⟩:=Qa3 (c:=s - 1) h3.a' h.L' (by omega) zL
 have hgd:=QW (c:=s - 1) h.L'
 have k5:Keeps [] g4 (g4++[.lst []]):=.push _
 have e5:=QgJ (σ:=ZF t d w st a4 b3 (Qk R) (.tup [.int x,.str z,.int y]) (some (.int x)) (some (.str z)) (some (.int y)) (some (.int s)) none) (i:=4) rfl a4'
 generalize g4++[GO.lst []]=g5 at e5 k5
 obtain⟨a6,g6,e6,a6',k6⟩:=Qa3 (c:=1) (k5.at' _ _ (by simp) a4') hgd (by omega) (by omega)
 obtain⟨b7,g7,e7,b7',k7⟩:=QcC (sg:=Qk (Qo L (s - 1))) (c:=1) (((k4.trans k5).trans k6).at' _ _ (by simp) b3') (by omega) (by omega)
 have nk:=JY hgd hm
 have hp1:=Y5 (c:=s) hR1 x0 x1
 refine⟨_,g7,?_,a6,b7,rfl,⟨rfl,k7.at' _ _ (by simp) a6',b7',QW hgd,Y5 hp1 nk.1 nk.2,?_⟩,(((((k1.trans k2).trans k3).trans k4).trans k5).trans k6).trans k7⟩
 ·unfold Qez
  refine Qg (ZF t d w st a b (Qk R) (.tup [.int x,.str z,.int y]) (some (.int x)) (some (.str z)) (some (.int y)) (some (.int s)) none) g1 (Ze e1) (Qg (ZF t d w st a b3 (Qk R) (.tup [.int x,.str z,.int y]) (some (.int x)) (some (.str z)) (some (.int y)) (some (.int s)) none) g3 ?_ (Qg (ZF t d w st a4 b3 (Qk R) (.tup [.int x,.str z,.int y]) (some (.int x)) (some (.str z)) (some (.int y)) (some (.int s)) none) g4 ?_ (Qg (ZF t d w st a4 b3 (Qk R) (.tup [.int x,.str z,.int y]) (some (.int x)) (some (.str z)) (some (.int y)) (some (.int s)) (some (.int (Qk (Qo L (s - 1)))))) g5 (Ze e5) ?_)))
  ·simp [ZF,e2,e3]
  ·simp [ZF,e4]
  ·rw [Int.toNat_of_nonneg y0]
   simp [ZF,e6,e7,SZ]
 ·show y.toNat<n; omega
theorem QgK {N:Nat} {e:D} (T:Tb rows n m) (ht:tabOf N g t rows) (h:StR n m g d st L R a b) (hw:1≤w) (zL:L.length<800) (zR:R.length<800) (hat:Qcw rows st (Qk R).toNat=some e) (he:entOk e n m) :
  ∃ o g',Qa0 [.ref t,d,.int w] g=.ok o g'∧Keeps [] g g'∧(match Yr e ⟨st,L,Qk R,Qo R 1⟩ w with
   | none=>o=.non
   | some rr=>QdJ n m g rr o g'):=by
 have hn:=JY h.R' T.m0
 unfold Qcw at hat
 cases hr:rows[st]? with
 | none=>rw [hr] at hat; cases hat
 | some row =>
  rw [hr] at hat
  have hd:=h.d'
  have k0:Keeps [] g (g++[.lst []]):=.push _
  have e1:=QgJ (σ:=[some (.ref t),some d,some (.int w),some (.int st),some (.ref a),some (.ref b),none,none,none,none,none,none,none]) (i:=5) rfl h.b'
  generalize g++[GO.lst []]=g0 at e1 k0
  obtain⟨x,q1,q2,_⟩:=Qib (ht.mono k0 (by simp)) hr hat
  rw [Int.toNat_of_nonneg hn.1] at q2
  have pre:∀ Ro,mSeq (mIf (Qh (mOp2 pIs (mVar 7) (mLit .non))) (mRet (mLit .non)) Qy) (mSeq (mAsg (YJ [(gSet 8),(gSet 9),(gSet 10)]) (mVar 7)) (mSeq (mIf (Qh (mOp2 pEq (mVar 9) (mLit (.str (Str.ofString "r"))))) Qey Qy) Qez)) (ZF t d w st a b (Qk R) e none none none none none) g0=Ro->QaZ [some (.ref t),some d,some (.int w),none,none,none,none,none,none,none,none,none,none] g=Ro:=fun Ro hR=>by
   unfold QaZ
   refine Qg [some (.ref t),some d,some (.int w),some (.int st),some (.ref a),some (.ref b),none,none,none,none,none,none,none] g (by rw [hd]; rfl) (Qg [some (.ref t),some d,some (.int w),some (.int st),some (.ref a),some (.ref b),some (.int (Qk R)),none,none,none,none,none,none] g0 (Ze e1) (Qg (ZF t d w st a b (Qk R) e none none none none none) g0 ?_ hR))
   simp [q1,q2,ZF]
  rcases he with rfl | ⟨x,y,z,rfl,x0,x1,y0,y1,hz⟩
  ·refine⟨.non,g0,Qz rfl (pre _ ?_),k0,rfl⟩
   exact Y9 (by simp [ZF,pIs,isNon])
  ·have h0:=h.mono k0
   unfold Yr
   dsimp only
   have p2:∀ Ro,mSeq (mIf (Qh (mOp2 pEq (mVar 9) (mLit (.str (Str.ofString "r"))))) Qey Qy) Qez (ZF t d w st a b (Qk R) (.tup [.int x,.str z,.int y]) (some (.int x)) (some (.str z)) (some (.int y)) none none) g0=Ro->QaZ [some (.ref t),some d,some (.int w),none,none,none,none,none,none,none,none,none,none] g=Ro:=fun Ro hR=>pre _ (Qg (ZF t d w st a b (Qk R) (.tup [.int x,.str z,.int y]) none none none none none) g0 (by simp [ZF,pIs,isNon]) (Qg (ZF t d w st a b (Qk R) (.tup [.int x,.str z,.int y]) (some (.int x)) (some (.str z)) (some (.int y)) none none) g0 rfl hR))
   have tz:Qh (mOp2 pEq (mVar 9) (mLit (.str (Str.ofString "r")))) (ZF t d w st a b (Qk R) (.tup [.int x,.str z,.int y]) (some (.int x)) (some (.str z)) (some (.int y)) none none) g0=.ok (z == rS) g0:=by simp [ZF,eq_str,s_r']
   by_cases hy:z=rS
   ·rw [if_pos hy]
    obtain⟨o,g',e3,a',b',e4,e5,e6⟩:=QkL (t:=t) (z:=z) h0 hw (by omega) (by omega) x0 x1 y0 y1
    exact⟨o,g',Qz rfl (p2 _ (Y9 (ift g0 (tz.trans (by rw [hy]; simp)) e3))),k0.trans e6,a',b',e4,e5,k0.trans e6⟩
   ·rw [if_neg hy]
    obtain⟨o,g',e3,a',b',e4,e5,e6⟩:=QkM (t:=t) (z:=z) h0 T.m0 hw (by omega) (by omega) x0 x1 y0 y1
    exact⟨o,g',Qz rfl (p2 _ (Qg _ g0 (iff' g0 (tz.trans (by rw [beq_false_of_ne hy])) rfl) e3)),k0.trans e6,a',b',e4,e5,k0.trans e6⟩
end
end L3
end
section
namespace L3
open PySem
noncomputable def Q9 (t:Nat) (d:D) (steps most done gone leaps:Int) (fd:Option D):S3:=[some (.ref t),some d,some (.int steps),some (.int most),some (.int done),some (.int gone),some (.int leaps),fd]
noncomputable def rowD (S:RowN) (a b:Nat):D:=.tup [.int S.st,.ref a,.ref b]
noncomputable def Zg (S:RowN) (a b:Nat) (gone done leaps:Int):D:=.tup [rowD S a b,.int gone,.int done,.int leaps]
noncomputable def RowIn (n m:Nat) (g:G) (S:RowN) (a b:Nat):Prop:=StR n m g (rowD S a b) S.st S.L (putN S.R S.own 1) a b
noncomputable def YH (st:Nat) (L R:Sts):RowN:=⟨st,L,Qk R,Qo R 1⟩
theorem Qca {rows:List (List D)} {N n m t:Nat} {steps most:Int} (T:Tb rows n m):∀(k:Nat) (d:D) (st:Nat) (L R:Sts) (a b:Nat) (g:G) (done gone leaps:Int) (fd:Option D),StR n m g d st L R a b->tabOf N g t rows->leaps+k=most->L.length+R.length+2*k<780 ->
  ∃ g',Keeps [] g g'∧(match runN rows k (YH st L R) (steps - done) with
   | none=>Zq (Qh (mOp2 pLt (mVar 4) (mVar 2))) QF (k+2) (Q9 t d steps most done gone leaps fd) g=.rt .non g'
   | some q=>∃ a' b',RowIn n m g' q.1 a' b'∧(Zq (Qh (mOp2 pLt (mVar 4) (mVar 2))) QF (k+2) (Q9 t d steps most done gone leaps fd) g=.rt (Zg q.1 a' b' (gone+q.2.1) (done+q.2.2.1) (leaps+q.2.2.2)) g' ∨
     ∃ fd',Zq (Qh (mOp2 pLt (mVar 4) (mVar 2))) QF (k+2) (Q9 t d steps most done gone leaps fd) g=.nx (Q9 t (rowD q.1 a' b') steps most (done+q.2.2.1) (gone+q.2.1) (leaps+q.2.2.2) fd') g'))
 | k,d,st,L,R,a,b,g,done,gone,leaps,fd,h,ht,hm,hz=>by
  have hn:=JY h.R' T.m0
  have hpd:putN (Qo R 1) (Qk R) 1=R:=Qa1 h.R'
  have hself:RowIn n m g (YH st L R) a b:=by
   have hd:=h.d'
   subst hd
   unfold RowIn YH rowD
   dsimp only
   rw [hpd]; exact h
  obtain⟨row,e,_,_,he,hat⟩:=T.at h.s' (c:=(Qk R).toNat) (by omega)
  have hN:∀ u,Jr rows (YH st L R) u=Yr e (YH st L R) u:=fun u=>by unfold Jr; show(Qcw rows st (Qk R).toNat).bind _=_; rw [hat]; rfl
  have tc:Qh (mOp2 pLt (mVar 4) (mVar 2)) (Q9 t d steps most done gone leaps fd) g=.ok (decide (done<steps)) g:=by simp [Q9]
  unfold Zq
  by_cases z:done<steps
  ·rw [tc,decide_eq_true z]
   dsimp only
   obtain⟨o,g1,e1,k1,hl1⟩:=QgK (w:=steps - done) T ht h (by omega) (by omega) (by omega) hat he
   have s1:mAsg (gSet 7) (Qn Qa0 (Qb (mVar 0) (Qb (mVar 1) (Qb (mOp2 pSub (mVar 2) (mVar 4)) mNil)))) (Q9 t d steps most done gone leaps fd) g=.nx (Q9 t d steps most done gone leaps (some o)) g1:=by simp [Q9,e1]
   have hN':=hN (steps - done)
   cases hld:Yr e (YH st L R) (steps - done) with
   | none =>
    rw [QbA (by rw [hN',hld])]
    have hx:Yr e ⟨st,L,Qk R,Qo R 1⟩ (steps - done)=none:=hld
    rw [hx] at hl1
    have ho:o=.non:=hl1
    subst ho
    refine⟨g1,k1,a,b,StR.mono hself k1,.inl ?_⟩
    have eb:QF (Q9 t d steps most done gone leaps fd) g=.rt (Zg (YH st L R) a b gone done leaps) g1:=by
     unfold QF
     refine Qg _ g1 s1 (Y9 (ift g1 rfl ?_))
     have hd:=h.d'
     subst hd
     simp [Q9,SZ,Zg,rowD,YH]
    rw [eb]; simp
   | some rr =>
    have hx:Yr e ⟨st,L,Qk R,Qo R 1⟩ (steps - done)=some rr:=hld
    rw [hx] at hl1
    obtain⟨a1,b1,ho,h1,_⟩:=hl1
    have tn:Qh (mOp2 pIs (mVar 7) (mLit .non)) (Q9 t d steps most done gone leaps (some o)) g1=.ok false g1:=by rw [ho]; rfl
    cases k with
    | zero =>
     rw [Qgv (by omega) (hN'.trans hld)]
     refine⟨g1,k1,?_⟩
     have eb:QF (Q9 t d steps most done gone leaps fd) g=.rt .non g1:=by
      unfold QF
      refine Qg _ g1 s1 (Qg _ g1 (iff' g1 tn rfl) (Y9 (ift g1 ?_ rfl)))
      have:leaps=most:=by omega
      simp [Q9,this]
     rw [eb]
    | succ k =>
     have hln:=Qer hld
     have hdl:=ZX R 1
     have hpl:=Js rr.1.R rr.1.own 1
     obtain⟨o1,s1',s2⟩:=QdE (S:=YH st L R) ⟨h.s',hn.1,hn.2,h.L',QW h.R'⟩ he T.m0 (show 1≤steps - done by omega) hld
     have hro:YH rr.1.st rr.1.L (putN rr.1.R rr.1.own 1)=rr.1:=by
      unfold YH
      have q1:Qk (putN rr.1.R rr.1.own 1)=rr.1.own:=Qem (by omega)
      have q2:Qo (putN rr.1.R rr.1.own 1) 1=rr.1.R:=by
       have:=Qcv (t:=rr.1.own) (x:=0) o1.R (.inr rfl)
       rw [Jq o1.R] at this
       exact this
      rw [q1,q2]
     obtain⟨g2,k2,y2⟩:=Qca (t:=t) (steps:=steps) (most:=most) T k (rowD rr.1 a1 b1) rr.1.st rr.1.L (putN rr.1.R rr.1.own 1) a1 b1 g1 (done+rr.2.1) (gone+rr.2.2) (leaps+1) (some o) h1 (ht.mono k1 (by simp)) (by omega) (by
      have:rr.1.L.length+rr.1.R.length≤L.length+(Qo R 1).length+1:=hln
      omega)
     rw [hro] at y2
     have eb:QF (Q9 t d steps most done gone leaps fd) g=.nx (Q9 t (rowD rr.1 a1 b1) steps most (done+rr.2.1) (gone+rr.2.2) (leaps+1) (some o)) g1:=by
      unfold QF
      refine Qg _ g1 s1 (Qg _ g1 (iff' g1 tn rfl) (Qg _ g1 (iff' g1 ?_ rfl) ?_))
      ·have:¬ leaps=most:=by omega
       simp [Q9,this]
      ·rw [ho]
       refine Qg (Q9 t (rowD rr.1 a1 b1) steps most done gone leaps (some (.tup [.tup [.int rr.1.st,.ref a1,.ref b1],.int rr.2.1,.int rr.2.2]))) g1 (by simp [Q9,rowD]) (Qg (Q9 t (rowD rr.1 a1 b1) steps most (done+rr.2.1) (gone+rr.2.2) leaps (some (.tup [.tup [.int rr.1.st,.ref a1,.ref b1],.int rr.2.1,.int rr.2.2]))) g1 ?_ (by simp [Q9]))
       unfold mAsg
       simp [Q9,SZ,YJ,Qch,gSet]
     refine⟨g2,k1.trans k2,?_⟩
     rw [eb]
     dsimp only
     rw [QaH (by omega) (hN'.trans hld),show steps - done - rr.2.1=steps - (done+rr.2.1) by omega]
     cases hr:runN rows k rr.1 (steps - (done+rr.2.1)) with
     | none=>rw [hr] at y2; exact y2
     | some q =>
      rw [hr] at y2
      obtain⟨a2,b2,z1,z2⟩:=y2
      dsimp only [Option.map]
      refine⟨a2,b2,z1,?_⟩
      rw [show gone+(rr.2.2+q.2.1)=gone+rr.2.2+q.2.1 by omega,show done+(rr.2.1+q.2.2.1)=done+rr.2.1+q.2.2.1 by omega,show leaps+(q.2.2.2+1)=leaps+1+q.2.2.2 by omega]
      exact z2
  ·rw [Qbz (by omega)]
   refine⟨g,.refl,a,b,hself,.inr ⟨fd,?_⟩⟩
   rw [tc,decide_eq_false z]
   have hd:=h.d'
   subst hd
   simp [rowD,YH]
theorem Qe6 {rows:List (List D)} {N n m t k:Nat} {steps:Int} {d:D} {st:Nat} {L R:Sts} {a b:Nat} {g:G} (T:Tb rows n m) (h:StR n m g d st L R a b) (ht:tabOf N g t rows) (hz:L.length+R.length+2*k<780) :
  ∃ g',Keeps [] g g'∧(match runN rows k (YH st L R) steps with
   | none=>Jn [.ref t,d,.int steps,.int k] g=.ok .non g'
   | some q=>∃ a' b',RowIn n m g' q.1 a' b'∧Jn [.ref t,d,.int steps,.int k] g=.ok (Zg q.1 a' b' q.2.1 q.2.2.1 q.2.2.2) g'):=by
 obtain⟨g',k1,y⟩:=Qca (t:=t) (steps:=steps) (most:=k) T k d st L R a b g 0 0 0 none h ht (by omega) hz
 rw [Int.sub_zero] at y
 refine⟨g',k1,?_⟩
 have pre:∀ Ro,mSeq (QaB (Qh (mOp2 pLt (mVar 4) (mVar 2))) QF) (mRet (mOpA pTup (Qb (mVar 1) (Qb (mVar 5) (Qb (mVar 4) (Qb (mVar 6) mNil)))))) (Q9 t d steps k 0 0 0 none) g=Ro->Qbr [some (.ref t),some d,some (.int steps),some (.int k),none,none,none,none] g=Ro:=fun Ro hR=>by
  unfold Qbr
  exact Qg _ g rfl hR
 cases hr:runN rows k (YH st L R) steps with
 | none=>rw [hr] at y; exact Qz rfl (pre _ (Y9 (Qai y (by intro z; cases z))))
 | some q =>
  rw [hr] at y
  obtain⟨a',b',z1,z2⟩:=y
  refine⟨a',b',z1,Qz rfl (pre _ ?_)⟩
  simp only [Int.zero_add] at z2
  rcases z2 with z2 | ⟨fd',z2⟩
  ·exact Y9 (Qai z2 (by intro z; cases z))
  ·exact Qg _ g' (Qai z2 (by intro z; cases z)) (by simp [Q9,SZ,Zg])
noncomputable def tooS:Str:=Str.ofString "too long"
theorem QbC {rows:List (List D)} {n m M k:Nat} {d:D} {steps:Int} {g:G} {st:Nat} {L R:Sts} {a b:Nat} (T:Tb rows n m) (hM:g[M]?=some (Jo rows)) (h:StR n m g d st L R a b) (hz:L.length+R.length+k<800) :
  ∃ g',Keeps [] g g'∧(match runN rows k (YH st L R) steps with
   | none=>Y1 [.ref M,d,.int steps,.int k] g=.ok (.str tooS) g'
   | some q=>∃ a' b',RowIn n m g' q.1 a' b'∧Y1 [.ref M,d,.int steps,.int k] g=.ok (Zg q.1 a' b' q.2.1 q.2.2.1 q.2.2.2) g'∧q.1.L.length+q.1.R.length≤L.length+R.length+k):=by
 obtain⟨g',k1,y⟩:=Qi8 (k:=k) (steps:=steps) T hM h hz
 refine⟨g',k1,?_⟩
 have hr0:runN rows k (YH st L R) steps=runN rows k ⟨st,L,Qk R,Qo R 1⟩ steps:=rfl
 rw [hr0]
 have s0:mAsg (gSet 4) (mLit .non) [some (.ref M),some d,some (.int steps),some (.int k),none] g=.nx [some (.ref M),some d,some (.int steps),some (.int k),some .non] g:=rfl
 cases hr:runN rows k ⟨st,L,Qk R,Qo R 1⟩ steps with
 | none =>
  rw [hr] at y
  refine Qz rfl (Qg _ g s0 (Qg [some (.ref M),some d,some (.int steps),some (.int k),some (.str tooS)] g' ?_ rfl))
  unfold mTry
  simp [y,runH,tooS]
 | some q =>
  rw [hr] at y
  obtain⟨a',b',e1,e2,e3⟩:=y
  refine⟨a',b',e2,Qz rfl (Qg _ g s0 (Qg [some (.ref M),some d,some (.int steps),some (.int k),some (Zg q.1 a' b' q.2.1 q.2.2.1 q.2.2.2)] g' ?_ rfl)),e3⟩
  unfold mTry
  simp [e1,Zg,rowD]
end L3
end
section
namespace L3
open PySem
section
variable {g:G}
@[simp] theorem QbD {i j:Int} (h:0<j):pMod (.int i) (.int j) g=.ok (.int (i % j)) g:=if_pos h
theorem ZM {i j:Int} (h:0<j) (h2:j<1073741824):Zp (.int i) (.int j) g=.ok (.int (i / j)) g:=if_pos ⟨h,h2⟩
end
noncomputable abbrev cnt (g:G) (a:Nat) (k:Int):Prop:=g[a]?=some (.lst [.int k])
theorem Keeps.setNew {S:List Nat} {g g1:G} {s:Nat} {o:GO} (k:Keeps S g g1) (h:g.length≤s):Keeps S g (g1.set s o) :=
 ⟨by have:=k.len; simp; exact this,fun n u q e=>by rw [List.getElem?_set_ne (by have:=YN e; omega)]; exact k.at' n u q e⟩
theorem QgL (ns:List Int) (a:Nat) (k:Int) (g:G) (hg:cnt g a k) (hk:0≤k) (hk2:k<1000000000):∃ v,1≤v∧JV [.fl (ns.map .int),.ref a] g=.ok (.int v) (g.set a (.lst [.int (k+1)])):=by
 obtain⟨m,m1,m2,e⟩:=Jp ns a k g hg hk hk2
 have ga:cnt (g.set a (.lst [.int (k+1)])) a (k+1):=QG hg
 generalize g.set a (.lst [.int (k+1)])=g1 at e ga
 obtain⟨c,s2⟩:∃ c,mAsg (gSet 3) (mIfE (Qh (mOp2 pGt (mOp1 pLen (mVar 0)) (mLit (.int 0)))) (mOp2 pIx (mVar 0) (mOp2 pMod (mOp2 pIx (mVar 1) (mLit (.int 0))) (mOp1 pLen (mVar 0)))) (mLit (.int 0))) [some (.fl (ns.map .int)),some (.ref a),some (.int m),none,none,none] g1=.nx [some (.fl (ns.map .int)),some (.ref a),some (.int m),some (.int c),none,none] g1:=by
  by_cases hl:0<ns.length
  ·obtain⟨x,hx⟩:=Qh3 ns (k+1) hl
   have hl':(0:Int)<(ns.length:Int):=by omega
   exact⟨x,by simp [pLen,hl,ix0 ga,ixfl hx]⟩
  ·cases ns with
   | nil=>exact⟨0,rfl⟩
   | cons x r=>simp at hl
 have hr:(m / 7 % 50).toNat≤1000:=by omega
 have hr2:((m / 7 % 50).toNat:Int)=m / 7 % 50:=by omega
 obtain⟨σ',g',f1,rfl,s,h0,x5,rfl⟩:=Yo (t:=gSet 5) (body:=Qas) (lo:=0) (n:=(m / 7 % 50).toNat) (σ:=[some (.fl (ns.map .int)),some (.ref a),some (.int m),some (.int c),some (.int 10),none]) (g:=g1)
  (fun i σ g'=>g'=g1∧∃ s:Int,0<s∧∃ x5,σ=[some (.fl (ns.map .int)),some (.ref a),some (.int m),some (.int c),some (.int s),x5]) ⟨rfl,10,by omega,none,rfl⟩ (fun i σ g' hi ⟨q,s,h0,x5,hσ⟩=>by
   subst q hσ
   refine⟨_,[some (.fl (ns.map .int)),some (.ref a),some (.int m),some (.int c),some (.int (s*10)),some (.int (0+i))],g',rfl,?_,rfl,s*10,by omega,_,rfl⟩
   simp [Qas,mulR (show cM 10 from ⟨by decide,by decide⟩)])
 have p5:pPow (.int 10) (.int 50) g'=.ok (.int (10 ^ 50)) g':=rfl
 have p4:pPow (.int 10) (.int 40) g'=.ok (.int (10 ^ 40)) g':=rfl
 refine⟨1+(c % 10 ^ 50+m*10 ^ 40) % s,by have:=Int.emod_nonneg (c % 10 ^ 50+m*10 ^ 40) (show s≠0 by omega); omega,Qz rfl (?_:QdA [some (.fl (ns.map .int)),some (.ref a),none,none,none,none] g=_)⟩
 unfold QdA
 refine Qg [some (.fl (ns.map .int)),some (.ref a),some (.int m),none,none,none] g' (by simp [e]) (Qg _ g' s2 (Qg [some (.fl (ns.map .int)),some (.ref a),some (.int m),some (.int c),some (.int 10),none] g' rfl (Qg [some (.fl (ns.map .int)),some (.ref a),some (.int m),some (.int c),some (.int s),x5] g' ?_ ?_)))
 ·have hrg:QD (mOp2 pMod (mOp2 Zp (mVar 2) (mLit (.int 7))) (mLit (.int 50))) [some (.fl (ns.map .int)),some (.ref a),some (.int m),some (.int c),some (.int 10),none] g'=.ok (Q8 0 (m / 7 % 50).toNat) g':=Yq (by rw [hr2]; simp [ZM]) (Qby hr)
  rw [QaG hrg]
  exact f1
 ·have cm:cM m:=⟨by omega,by omega⟩
  simp only [QkA,Qc9,Qh5,Qgr,List.getElem?_cons_succ,List.getElem?_cons_zero,p5,p4,QbD (show(0:Int)<10 ^ 50 by decide),mulL cm,Qh7,QbD h0]
noncomputable def AdjN (m:Int):Sts->Prop
 | []=>True
 | (t,k)::r=>0≤t∧t<m∧1≤k∧(∀ q,r.head?=some q->q.1≠t)∧AdjN m r
theorem QeA {m:Int} {s c:Int}:∀ {r:Sts},AdjN m r->0≤s->s<m->1≤c->(∀ q,r.getLast?=some q->q.1≠s)->AdjN m (r++[(s,c)])
 | [],_,h0,h1,hc,_=>⟨h0,h1,hc,by simp,trivial⟩
 | p::r,h,h0,h1,hc,hl=>by
  refine⟨h.1,h.2.1,h.2.2.1,fun q hq=>?_,QeA h.2.2.2.2 h0 h1 hc fun q hq=>?_⟩
  ·cases r with
   | nil =>
    have:(s,c)=q:=by simpa using hq
    subst this
    exact fun e=>hl p (by simp) e.symm
   | cons u r=>exact h.2.2.2.1 q (by simpa using hq)
  ·cases r with
   | nil=>simp at hq
   | cons u r=>exact hl q (by simpa using hq)
theorem QeB {m:Int} {p:Int×Int} (hp:p.1≠0):∀ {r:Sts},AdjN m (r++[p])->Zy m (r++[p])
 | [],h=>⟨h.1,h.2.1,h.2.2.1,fun e=>hp e.symm,trivial⟩
 | q::r,h=>by
  refine⟨h.1,h.2.1,h.2.2.1,?_,QeB hp h.2.2.2.2⟩
  have h4:=h.2.2.2.1
  have h5:=h.2.2.2.2
  cases r with
  | nil=>exact h4 p (by simp)
  | cons u r=>exact h4 u (by simp)
theorem QgM {m:Int} {p:Int×Int} (hp:p.1=0):∀ {r:Sts},AdjN m (r++[p])->Zy m r
 | [],_=>trivial
 | [q],h=>⟨h.1,h.2.1,h.2.2.1,fun e=>h.2.2.2.1 p (by simp) (by rw [hp]; exact e),trivial⟩
 | q::u::r,h=>⟨h.1,h.2.1,h.2.2.1,h.2.2.2.1 u (by simp),QgM hp (r:=u::r) h.2.2.2.2⟩
noncomputable def Qe7 (r:Sts):D:=match r.getLast? with
 | none=>.non
 | some p=>.int p.1
theorem Qat (r:Sts) (p:Int×Int):Qe7 (r++[p])=.int p.1:=by simp [Qe7]
theorem QeC (ns:List Int) (a:Nat) (k:Int) (m:Nat) (g:G) (hg:cnt g a k) (hk:0≤k) (hk2:k<900000000) (hm:0<m) :
  ∃ row s k' g',Z8 [.fl (ns.map .int),.ref a,.int m] g=.ok (.ref s) g'∧g'[s]?=some (.lst (stsD row))∧Zy m row∧row.length≤4∧cnt g' a k'∧k≤k'∧k'≤k+9∧Keeps [a] g g':=by
 let S:Sts->Option D->Option D->Option D->Option D->S3:=fun row x5 x6 x7 x8=>[some (.fl (ns.map .int)),some (.ref a),some (.int m),some (.ref g.length),some (Qe7 row),x5,x6,x7,x8]
 have ha:=YN hg
 have hg0:cnt (g++[.lst []]) a k:=Zu hg
 have hs0:=QN (g:=g) (.lst [])
 have k0:Keeps [a] g (g++[.lst []]):=.push _
 generalize hg1:g++[GO.lst []]=g1 at hg0 hs0 k0
 obtain⟨mm,m1,m2,e1⟩:=Jp ns a k g1 hg0 hk (by omega)
 have c2:cnt (g1.set a (.lst [.int (k+1)])) a (k+1):=QG hg0
 have s2:(g1.set a (.lst [.int (k+1)]))[g.length]?=_:=(List.getElem?_set_ne (by omega)).trans hs0
 have k2:Keeps [a] g1 (g1.set a (.lst [.int (k+1)])):=.set _ _
 generalize g1.set a (.lst [.int (k+1)])=g2 at e1 c2 s2 k2
 have hr2:((mm % 5).toNat:Int)=mm % 5:=by omega
 have hm':(0:Int)<m:=by omega
 obtain⟨σ',g',f1,row,k',q1,q2,q3,q4,q5,q6,q7,x5,x6,x7,x8,q8⟩:=Yo (t:=gSet 5) (body:=Zw) (lo:=0) (n:=(mm % 5).toNat) (σ:=S [] none none none none) (g:=g2)
  (fun i σ g'=>∃ row k',g'[g.length]?=some (.lst (stsD row))∧AdjN m row∧row.length≤i∧cnt g' a k'∧k≤k'∧k'≤k+1+2*i∧Keeps [a] g g'∧∃ x5 x6 x7 x8,σ=S row x5 x6 x7 x8) ⟨[],k+1,s2,trivial,by simp,c2,by omega,by omega,k0.trans k2,none,none,none,none,rfl⟩ (fun i σ g' hi ⟨row,k',q1,q2,q3,q4,q5,q6,q7,x5,x6,x7,x8,hσ⟩=>by
   subst hσ
   obtain⟨u,u1,u2,e3⟩:=Jp ns a k' g' q4 (by omega) (by omega)
   have c3:cnt (g'.set a (.lst [.int (k'+1)])) a (k'+1):=QG q4
   have s3:(g'.set a (.lst [.int (k'+1)]))[g.length]?=_:=(List.getElem?_set_ne (by omega)).trans q1
   have k3:Keeps [a] g' (g'.set a (.lst [.int (k'+1)])):=.set _ _
   generalize g'.set a (.lst [.int (k'+1)])=g3 at e3 c3 s3 k3
   have hsg:0≤u % m∧u % m<m:=⟨Int.emod_nonneg _ (by omega),Int.emod_lt_of_pos _ hm'⟩
   obtain⟨c,k4,g4,hc,kk1,kk2,c4,s4,kp4,e4⟩:∃ c k4 g4,1≤c∧k'≤k4∧k4≤k'+2∧cnt g4 a k4∧g4[g.length]?=some (.lst (stsD row))∧Keeps [a] g3 g4∧mIf (Qh (mOp2 pEq (mOp2 pMod (mOp2 Zp (mVar 6) (mLit (.int 32))) (mLit (.int 3))) (mLit (.int 0)))) (mAsg (gSet 8) (Qn JV (Qb (mVar 0) (Qb (mVar 1) mNil)))) Qy (S row (some (.int (0+i))) (some (.int u)) (some (.int (u % m))) (some (.int (1+u / 8 % 4)))) g3=.nx (S row (some (.int (0+i))) (some (.int u)) (some (.int (u % m))) (some (.int c))) g4:=by
    by_cases h3:u / 32 % 3=0
    ·obtain⟨v,v1,e4⟩:=QgL ns a (k'+1) g3 c3 (by omega) (by omega)
     refine⟨v,k'+1+1,_,v1,by omega,by omega,QG c3,(List.getElem?_set_ne (by omega)).trans s3,.set _ _,?_⟩
     simp [S,ZM,h3,e4]
    ·exact⟨1+u / 8 % 4,k'+1,g3,by omega,by omega,by omega,c3,s3,.refl,by simp [S,ZM,h3]⟩
   have sp:∀ R,mIf (Qh (mOp2 pNe (mVar 7) (mVar 4))) (mSeq (ZE (Z3 (mVar 3) (mOpA pTup (Qb (mVar 7) (Qb (mVar 8) mNil))))) (mAsg (gSet 4) (mVar 7))) Qy (S row (some (.int (0+i))) (some (.int u)) (some (.int (u % m))) (some (.int c))) g4=R->Zw (S row (some (.int (0+i))) x6 x7 x8) g'=R:=fun R hR=>by
    unfold Zw
    exact Qg (S row (some (.int (0+i))) (some (.int u)) x7 x8) g3 (by simp [S,e3]) (Qg (S row (some (.int (0+i))) (some (.int u)) (some (.int (u % m))) x8) g3 (by simp [S,QbD hm']) (Qg (S row (some (.int (0+i))) (some (.int u)) (some (.int (u % m))) (some (.int (1+u / 8 % 4)))) g3 (by simp [S,ZM]) (Qg _ g4 e4 hR)))
   have hq:∀ q,row.getLast?=some q->q.1=u % m∨q.1≠u % m:=fun q _=>Decidable.em _
   have kx:=(q7.trans k3).trans kp4
   have hi5:i<5:=by omega
   obtain⟨b,hb,hb1,hb2⟩:∃ b,pNe (.int (u % m)) (Qe7 row) g4=.ok (.bl b) g4∧(b=true->∀ q,row.getLast?=some q->q.1≠u % m)∧True:=by
    unfold Qe7
    cases hl:row.getLast? with
    | none=>exact⟨true,rfl,by simp,trivial⟩
    | some p=>exact⟨!(u % m == p.1),rfl,fun h q hq'=>by cases hq'; intro e; simp [e] at h,trivial⟩
   cases b with
   | false=>exact⟨_,_,g4,rfl,sp _ (iff' g4 (by simp [S,hb]) rfl),row,k4,s4,q2,by omega,c4,by omega,by omega,kx,_,_,_,_,rfl⟩
   | true =>
    have hap:=Qgp (σ:=S row (some (.int (0+i))) (some (.int u)) (some (.int (u % m))) (some (.int c))) (o:=mVar 3) (e:=mOpA pTup (Qb (mVar 7) (Qb (mVar 8) mNil))) (n:=g.length) (g:=g4) rfl s4 (y:=stD (u % m,c)) (by simp [S,SZ,stD]) (Qc8 (by simp [stsD]; omega))
    refine⟨_,S (row++[(u % m,c)]) (some (.int (0+i))) (some (.int u)) (some (.int (u % m))) (some (.int c)),g4.set g.length (.lst (stsD row++[stD (u % m,c)])),rfl,sp _ (ift g4 (by simp [S,hb]) (Qg _ _ hap ?_)),row++[(u % m,c)],k4,?_,QeA q2 hsg.1 hsg.2 hc (hb1 rfl),by simp; omega,(List.getElem?_set_ne (by omega)).trans c4,by omega,by omega,kx.setNew (Nat.le_refl _),_,_,_,_,rfl⟩
    ·simp [S,Qat]
    ·rw [QG s4]; simp [stsD])
 subst q8
 have hr5:(mm % 5).toNat≤4:=by omega
 have hrg:QD (mOp2 pMod (Qn Zj (Qb (mVar 0) (Qb (mVar 1) mNil))) (mLit (.int 5))) (S [] none none none none) g1=.ok (Q8 0 (mm % 5).toNat) g2:=Yq (by rw [hr2]; simp [S,e1]) (Qby (by omega))
 have pre:∀ R,mSeq (mIf (Qh (mOp2 pEq (mVar 4) (mLit (.int 0)))) (ZE (mOp1 pPop (mVar 3))) Qy) (mRet (mVar 3)) (S row x5 x6 x7 x8) g'=R->Y2 [some (.fl (ns.map .int)),some (.ref a),some (.int m),none,none,none,none,none,none] g=R:=fun R hR=>by
  unfold Y2
  refine Qg [some (.fl (ns.map .int)),some (.ref a),some (.int m),some (.ref g.length),none,none,none,none,none] g1 (by rw [← hg1]; simp [SZ]) (Qg (S [] none none none none) g1 rfl (Qg (S row x5 x6 x7 x8) g' ?_ hR))
  rw [QaG hrg]
  exact f1
 rcases Qde row with rfl | ⟨r,p,rfl⟩
 ·exact⟨[],g.length,k',g',Qz rfl (pre _ (by simp [S,Qe7]; rfl)),q1,trivial,by simp,q4,q5,by omega,q7⟩
 ·by_cases hp:p.1=0
  ·have h2:g'[g.length]?=some (.lst (stsD r++[stD p])):=by rw [q1]; simp [stsD]
   refine⟨r,g.length,k',g'.set g.length (.lst (stsD r)),Qz rfl (pre _ ?_),QG q1,QgM hp q2,by simp at q3; omega,(List.getElem?_set_ne (by omega)).trans q4,q5,by omega,q7.setNew (Nat.le_refl _)⟩
   have e:pPop (.ref g.length) g'=.ok (stD p) (g'.set g.length (.lst (stsD r))):=by simp [pPop,h2]
   simp [S,Qat,hp,e]
  ·exact⟨r++[p],g.length,k',g',Qz rfl (pre _ (by simp [S,Qat,hp])),q1,QeB hp q2,by omega,q4,q5,by omega,q7⟩
end L3
end
section
namespace L3
open PySem
noncomputable def TabW (N n m:Nat) (g:G) (t:Nat):Prop:=N≤t∧∃ ls:List Nat,g[t]?=some (.lst (ls.map .ref))∧ls.length=n∧∀ x∈ls,N≤x∧x≠t∧∃ r,g[x]?=some (.lst r)∧r.length=m∧∀ d∈r,entOk d n m
theorem Qjc {N n m t:Nat} {g:G} {rows:List (List D)} (h:tabOf N g t rows) (h1:rows.length=n) (h2:∀ r∈rows,r.length=m) (h3:∀ r∈rows,∀ d∈r,entOk d n m):TabW N n m g t:=by
 obtain⟨hN,ds,e1,e2,e3⟩:=h
 have:∃ ls:List Nat,ds=ls.map D.ref:=by
  have hx:∀ x∈ds,∃ n,x=D.ref n:=fun x hx=>by
   obtain⟨i,hi,rfl⟩:=List.getElem_of_mem hx
   obtain⟨n,q,_⟩:=e3 i ds[i] (rows[i]'(by omega)) (by simp [hi]) (by simp [show i<rows.length by omega])
   exact⟨n,q⟩
  clear e1 e2 e3
  induction ds with
  | nil=>exact⟨[],rfl⟩
  | cons x r ih =>
   obtain⟨n,rfl⟩:=hx x (by simp)
   obtain⟨ls,rfl⟩:=ih fun y hy=>hx y (by simp [hy])
   exact⟨n::ls,rfl⟩
 obtain⟨ls,rfl⟩:=this
 have hl:ls.length=rows.length:=by simpa using e2
 refine⟨hN,ls,e1,by omega,fun x hx=>?_⟩
 obtain⟨i,hi,rfl⟩:=List.getElem_of_mem hx
 have hr:i<rows.length:=by omega
 obtain⟨n',q1,q2,q3,q4⟩:=e3 i (.ref ls[i]) rows[i] (by simp [hi]) (by simp [hr])
 cases q1
 exact⟨q2,q3,rows[i],q4,h2 _ (List.getElem_mem hr),h3 _ (List.getElem_mem hr)⟩
theorem TabW.back {N n m t:Nat} {g:G} (h:TabW N n m g t):∃ rows,tabOf N g t rows∧rows.length=n∧(∀ r∈rows,r.length=m)∧∀ r∈rows,∀ d∈r,entOk d n m:=by
 obtain⟨hN,ls,e1,e2,e3⟩:=h
 have:∀ ls:List Nat,(∀ x∈ls,N≤x∧x≠t∧∃ r,g[x]?=some (.lst r)∧r.length=m∧∀ d∈r,entOk d n m)->∃ rows:List (List D),rows.length=ls.length∧(∀ r∈rows,r.length=m∧∀ d∈r,entOk d n m)∧∀(i:Nat) x r,ls[i]?=some x->rows[i]?=some r->N≤x∧x≠t∧g[x]?=some (.lst r):=by
  intro ls
  induction ls with
  | nil=>exact fun _=>⟨[],rfl,by simp,by simp⟩
  | cons x l ih =>
   intro hx
   obtain⟨rows,a1,a2,a3⟩:=ih fun y hy=>hx y (by simp [hy])
   obtain⟨b1,b2,r,b3,b4,b5⟩:=hx x (by simp)
   refine⟨r::rows,by simp [a1],fun r' hr'=>?_,fun i y r' hy hr'=>?_⟩
   ·rcases List.mem_cons.mp hr' with rfl | hr'
    ·exact⟨b4,b5⟩
    ·exact a2 r' hr'
   ·cases i with
    | zero=>simp at hy hr'; subst hy hr'; exact⟨b1,b2,b3⟩
    | succ i=>exact a3 i y r' (by simpa using hy) (by simpa using hr')
 obtain⟨rows,a1,a2,a3⟩:=this ls e3
 refine⟨rows,⟨hN,_,e1,by simp [a1],fun i x r hx hr=>?_⟩,by omega,fun r hr=>(a2 r hr).1,fun r hr=>(a2 r hr).2⟩
 rw [List.getElem?_map] at hx
 cases hl:ls[i]? with
 | none=>rw [hl] at hx; cases hx
 | some y =>
  rw [hl] at hx
  cases hx
  exact⟨y,rfl,(a3 i y r hl hr).1,(a3 i y r hl hr).2.1,(a3 i y r hl hr).2.2⟩
theorem TabW.set {N n m t x:Nat} {g:G} {r:List D} (h:TabW N n m g t) (hx:g[x]?=some (.lst r)) (xt:x≠t) {r':List D} (hl:r'.length=m) (hr:∀ d∈r',entOk d n m):TabW N n m (g.set x (.lst r')) t:=by
 obtain⟨hN,ls,e1,e2,e3⟩:=h
 refine⟨hN,ls,by rw [List.getElem?_set_ne xt]; exact e1,e2,fun y hy=>?_⟩
 obtain⟨b1,b2,r0,b3,b4,b5⟩:=e3 y hy
 by_cases z:x=y
 ·subst z; exact⟨b1,b2,r',QG hx,hl,hr⟩
 ·exact⟨b1,b2,r0,by rw [List.getElem?_set_ne z]; exact b3,b4,b5⟩
theorem TabW.cnt {N n m t a:Nat} {g:G} {o:GO} (h:TabW N n m g t) (ha:a<N):TabW N n m (g.set a o) t:=by
 obtain⟨hN,ls,e1,e2,e3⟩:=h
 refine⟨hN,ls,by rw [List.getElem?_set_ne (by omega)]; exact e1,e2,fun y hy=>?_⟩
 obtain⟨b1,b2,r0,b3,b4,b5⟩:=e3 y hy
 exact⟨b1,b2,r0,by rw [List.getElem?_set_ne (by omega)]; exact b3,b4,b5⟩
noncomputable def sMb (ns:List Int) (a n m t:Nat) (x2 x6 x7:Option D):S3:=[some (.fl (ns.map .int)),some (.ref a),x2,some (.int n),some (.int m),some (.ref t),x6,x7]
theorem Qjd {N n m t a i j:Nat} {ns:List Int} {g:G} {k:Int} {x2:Option D} (h:TabW N n m g t) (ha:a<N) (hg:cnt g a k) (hk:0≤k) (hk2:k<1000000000) (hi:i<n) (hj:j<m) :
  ∃ x2' g',ZR (sMb ns a n m t x2 (some (.int i)) (some (.int j))) g=.nx (sMb ns a n m t x2' (some (.int i)) (some (.int j))) g'∧TabW N n m g' t∧cnt g' a (k+1)∧KeepsN N [a] g g':=by
 obtain⟨mm,m1,m2,e⟩:=Jp ns a k g hg hk hk2
 have hn':(0:Int)<n:=by omega
 have hm':(0:Int)<m:=by omega
 have c1:cnt (g.set a (.lst [.int (k+1)])) a (k+1):=QG hg
 have h1:TabW N n m (g.set a (.lst [.int (k+1)])) t:=h.cnt ha
 have k1:KeepsN N [a] g (g.set a (.lst [.int (k+1)])):=(Keeps.set _ _).n (by simp)
 generalize g.set a (.lst [.int (k+1)])=g1 at e c1 h1 k1
 have s1:mAsg (gSet 2) (Qn Zj (Qb (mVar 0) (Qb (mVar 1) mNil))) (sMb ns a n m t x2 (some (.int i)) (some (.int j))) g=.nx (sMb ns a n m t (some (.int mm)) (some (.int i)) (some (.int j))) g1:=by simp [sMb,e]
 have part:∀(g:G) (σ:S3) (P:Bool) (c:MT) (v:ME),σ[5]?=some (some (.ref t))->σ[6]?=some (some (.int i))->σ[7]?=some (some (.int j))->TabW N n m g t->cnt g a (k+1) ->
   (∀ x r d,g[x]?=some (.lst r)->r[j]?=some d->pIx (.ref t) (.int i) g=.ok (.ref x) g->pIx (.ref x) (.int j) g=.ok d g->entOk d n m->c σ g=.ok false g∨(c σ g=.ok true g∧∃ d',v σ g=.ok d' g∧entOk d' n m)) ->
   ∃ g',mIf c (Y7 (mOp2 pIx (mVar 5) (mVar 6)) (mVar 7) v) Qy σ g=.nx σ g'∧TabW N n m g' t∧cnt g' a (k+1)∧KeepsN N [a] g g':=by
  intro g σ P c v v5 v6 v7 h hc hd
  obtain⟨hN,ls,e1,e2,e3⟩:=id h
  have hx:ls[i]?=some (ls[i]'(by omega)):=by simp [show i<ls.length by omega]
  obtain⟨b1,b2,r,b3,b4,b5⟩:=e3 _ (List.getElem_mem (show i<ls.length by omega))
  have hr:r[j]?=some (r[j]'(by omega)):=by simp [show j<r.length by omega]
  have p1:pIx (.ref t) (.int i) g=.ok (.ref (ls[i]'(by omega))) g:=Qb8 e1 (by rw [List.getElem?_map,hx]; rfl)
  have p2:pIx (.ref (ls[i]'(by omega))) (.int j) g=.ok (r[j]'(by omega)) g:=Qb8 b3 hr
  rcases hd _ r _ b3 hr p1 p2 (b5 _ (List.getElem_mem (by omega))) with hf | ⟨ht,d',hv,ho⟩
  ·exact⟨g,iff' g hf rfl,h,hc,.refl⟩
  ·refine⟨g.set (ls[i]'(by omega)) (.lst (r.set j d')),ift g ht ?_,h.set b3 b2 (by simp [b4]) (fun d hd=>?_),(List.getElem?_set_ne (by omega)).trans hc,(Keeps.set _ _).n (fun n hn h2=>by simp at hn; omega)⟩
   ·exact Qhw hv (by simp [v5,v6,p1]) (by simp [v7]) b3 (by omega)
   ·rcases List.mem_or_eq_of_mem_set hd with hd | rfl
    ·exact b5 d hd
    ·exact ho
 obtain⟨g2,s2,h2,c2,k2⟩:=part g1 (sMb ns a n m t (some (.int mm)) (some (.int i)) (some (.int j))) true (JO (Qh (mOp2 pEq (mOp2 pMod (mVar 2) (mLit (.int 3))) (mLit (.int 0)))) (Qh (mOp2 J4 (mOp2 pIx (mOp2 pIx (mVar 5) (mVar 6)) (mVar 7)) (mLit .non)))) (mOpA pTup (Qb (mOp2 pIx (mOp2 pIx (mOp2 pIx (mVar 5) (mVar 6)) (mVar 7)) (mLit (.int 0))) (Qb (mOp2 pIx (mOp2 pIx (mOp2 pIx (mVar 5) (mVar 6)) (mVar 7)) (mLit (.int 1))) (Qb (mVar 6) mNil)))) rfl rfl rfl h1 c1 (fun x r d hx hr p1 p2 ho=>by
  rcases ho with rfl | ⟨u,v,w,rfl,u0,u1,v0,v1,hw⟩
  ·left; by_cases h3:mm % 3=0 <;> simp [sMb,h3,p1,p2,J4,isNon]
  ·by_cases h3:mm % 3=0
   ·right; exact⟨by simp [sMb,h3,p1,p2,J4,isNon],.tup [.int u,.str w,.int i],by simp [sMb,p1,p2,SZ],.inr ⟨u,i,w,rfl,u0,u1,by omega,by omega,hw⟩⟩
   ·left; simp [sMb,h3])
 obtain⟨w,hw,ww⟩:=Qky (mm / 300) g2
 obtain⟨g3,s3,h3,c3,k3⟩:=part g2 (sMb ns a n m t (some (.int mm)) (some (.int i)) (some (.int j))) true (JO (Qh (mOp2 pGt (mOp2 pMod (mOp2 Zp (mVar 2) (mLit (.int 3))) (mLit (.int 7))) (mLit (.int 1)))) (Qh (mOp2 pIs (mOp2 pIx (mOp2 pIx (mVar 5) (mVar 6)) (mVar 7)) (mLit .non)))) (mOpA pTup (Qb (mOp2 pMod (mOp2 Zp (mVar 2) (mLit (.int 30))) (mVar 4)) (Qb (mOp2 pIx (mLit (.str (Str.ofString "lr"))) (mOp2 pMod (mOp2 Zp (mVar 2) (mLit (.int 300))) (mLit (.int 2)))) (Qb (mOp2 pMod (mOp2 Zp (mVar 2) (mLit (.int 600))) (mVar 3)) mNil)))) rfl rfl rfl h2 c2 (fun x r d hx hr p1 p2 ho=>by
  by_cases h3:1<mm / 3 % 7
  ·rcases ho with rfl | ⟨u,v,w,rfl,_⟩
   ·right; exact⟨by simp [sMb,h3,p1,p2,pIs,isNon,ZM],.tup [.int (mm / 30 % m),.str w,.int (mm / 600 % n)],by simp [sMb,ZM,QbD hn',QbD hm',hw,SZ],.inr ⟨_,_,w,rfl,Int.emod_nonneg _ (by omega),Int.emod_lt_of_pos _ hm',Int.emod_nonneg _ (by omega),Int.emod_lt_of_pos _ hn',ww⟩⟩
   ·left; simp [sMb,h3,p1,p2,pIs,isNon,ZM]
  ·left; simp [sMb,h3,ZM])
 exact⟨some (.int mm),g3,Qg _ g1 s1 (Qg _ g2 s2 s3),h3,c3,(k1.trans k2).trans k3⟩
theorem QkN {N n m t a i:Nat} {ns:List Int} {g:G} {k:Int} {x2 x7:Option D} (h:TabW N n m g t) (ha:a<N) (hg:cnt g a k) (hk:0≤k) (hk2:k<900000000) (hi:i<n) (hm:m≤8) :
  ∃ x2' x7' g',Zl (sMb ns a n m t x2 (some (.int i)) x7) g=.nx (sMb ns a n m t x2' (some (.int i)) x7') g'∧TabW N n m g' t∧cnt g' a (k+m)∧KeepsN N [a] g g':=by
 obtain⟨σ',g',f1,h',c',k',x2',x7',rfl⟩:=Yo (t:=gSet 7) (body:=ZR) (lo:=0) (n:=m) (σ:=sMb ns a n m t x2 (some (.int i)) x7) (g:=g)
  (fun j σ g'=>TabW N n m g' t∧cnt g' a (k+j)∧KeepsN N [a] g g'∧∃ x2' x7',σ=sMb ns a n m t x2' (some (.int i)) x7') ⟨h,by simpa using hg,.refl,_,_,rfl⟩ (fun j σ g' hj ⟨q1,q2,q3,x2',x7',hσ⟩=>by
   subst hσ
   obtain⟨x2'',g'',e1,e2,e3,e4⟩:=Qjd (ns:=ns) (x2:=x2') q1 ha q2 (by omega) (by omega) hi hj
   refine⟨sMb ns a n m t x2' (some (.int i)) (some (.int j)),_,g'',by simp [sMb,gSet],e1,e2,by rw [show k+((j+1:Nat):Int)=k+j+1 by omega]; exact e3,q3.trans e4,_,_,rfl⟩)
 refine⟨x2',x7',g',?_,h',c',k'⟩
 unfold Zl
 have hrg:QD (mVar 4) (sMb ns a n m t x2 (some (.int i)) x7) g=.ok (Q8 0 m) g:=Yq (by simp [sMb]) (Qby (by omega))
 rw [QaG hrg]
 exact f1
theorem pick {xs:List Int} {i:Int} {g:G} {n:Nat} (hx:∀ x∈xs,1≤x∧x≤4) (h0:0≤i) (h1:i<xs.length) (hn:g.length=n):∃ v:Nat,1≤v∧v≤4∧pIx (.ref n) (.int i) (g++[.lst (xs.map .int)])=.ok (.int v) (g++[.lst (xs.map .int)]):=by
 subst hn
 have hi:i.toNat<xs.length:=by omega
 have:=hx _ (List.getElem_mem hi)
 refine⟨(xs[i.toNat]).toNat,by omega,by omega,?_⟩
 rw [Int.toNat_of_nonneg (by omega)]
 exact Qkz (QN _) h0 (by simp [hi])
end L3
namespace L3
open PySem
theorem Qlz (ns:List Int) (a:Nat) (k:Int) (g:G) (hg:cnt g a k) (hk:0≤k) (hk2:k<800000000) :
  ∃ N n m t rows k' g',YF [.fl (ns.map .int),.ref a] g=.ok (.ref t) g'∧tabOf N g' t rows∧Tb rows n m∧cnt g' a k'∧k≤k'∧k'≤k+200∧Keeps [a] g g'∧a<N:=by
 obtain⟨mm,m1,m2,e⟩:=Jp ns a k g hg hk (by omega)
 have ha:=YN hg
 have c1:cnt (g.set a (.lst [.int (k+1)])) a (k+1):=QG hg
 have k1:Keeps [a] g (g.set a (.lst [.int (k+1)])):=.set _ _
 have l1:(g.set a (.lst [.int (k+1)])).length=g.length:=by simp
 generalize g.set a (.lst [.int (k+1)])=g1 at e c1 k1 l1
 obtain⟨v,v1,v2,e2⟩:=pick (xs:=[1,2,2,3,3,4]) (i:=mm % 6) (g:=g1) (n:=g1.length) (by decide) (by omega) (by simp; omega) rfl
 have k2:Keeps [a] g1 (g1++[.lst ([1,2,2,3,3,4].map D.int)]):=.push _
 have n2:newL [.int 1,.int 2,.int 2,.int 3,.int 3,.int 4] g1=.ok (.ref g1.length) (g1++[.lst ([1,2,2,3,3,4].map D.int)]):=by simp [SZ]
 have c2:cnt (g1++[.lst ([1,2,2,3,3,4].map D.int)]) a (k+1):=Zu c1
 generalize g1++[.lst ([1,2,2,3,3,4].map D.int)]=g2 at e2 k2 n2 c2
 obtain⟨u,u1,u2,e3⟩:=pick (xs:=[2,2,3,2,4,1]) (i:=mm / 6 % 6) (g:=g2) (n:=g2.length) (by decide) (by omega) (by simp; omega) rfl
 have k3:Keeps [a] g2 (g2++[.lst ([2,2,3,2,4,1].map D.int)]):=.push _
 have n3:newL [.int 2,.int 2,.int 3,.int 2,.int 4,.int 1] g2=.ok (.ref g2.length) (g2++[.lst ([2,2,3,2,4,1].map D.int)]):=by simp [SZ]
 have c3:cnt (g2++[.lst ([2,2,3,2,4,1].map D.int)]) a (k+1):=Zu c2
 generalize g2++[.lst ([2,2,3,2,4,1].map D.int)]=g3 at e3 k3 n3 c3
 let S:Option D->Option D->Option D->Option D->S3:=fun x3 x4 x5 x6=>[some (.fl (ns.map .int)),some (.ref a),some (.int mm),x3,x4,x5,x6,none]
 obtain⟨n,m,hn0,hn,hm0,hm,s4⟩:∃ n m:Nat,0<n∧n≤5∧0<m∧m≤8∧mIf (Qh (mOp2 pEq (mOp2 pMod (mOp2 Zp (mVar 2) (mLit (.int 36))) (mLit (.int 13))) (mLit (.int 0)))) (mAsg (YJ [(gSet 3),(gSet 4)]) (mOpA pTup (Qb (mLit (.int 5)) (Qb (mLit (.int 8)) mNil)))) Qy (S (some (.int v)) (some (.int u)) none none) g3=.nx (S (some (.int n)) (some (.int m)) none none) g3:=by
  by_cases h:mm / 36 % 13=0
  ·refine⟨5,8,by omega,by omega,by omega,by omega,ift g3 (by simp [S,ZM,h]) (by unfold mAsg; simp [SZ,YJ,Qch,gSet,S])⟩
  ·exact⟨v,u,by omega,by omega,by omega,by omega,iff' g3 (by simp [S,ZM,h]) rfl⟩
 obtain⟨rows,g4,e4,k4,c4,t4,r1,r2,r3⟩:=Qhv ns a (k+1) n m g3 hn0 hm0 (by omega) hm c3 (by omega) (by omega)
 have haN:a<g3.length:=YN c3
 have hmul:((n*m:Nat):Int)≤40:=by have:=Nat.mul_le_mul hn hm; omega
 have hmul0:(n:Int)*m=((n*m:Nat):Int):=by simp
 have hmm0:(0:Int)≤((n*m:Nat):Int):=by omega
 rw [hmul0] at c4
 generalize ((n*m:Nat):Int)=nm at c4 hmul hmm0
 obtain⟨σ',g5,f5,h5,⟨k',c5,hk'1,hk'2⟩,k5,x2',x6',x7',rfl⟩:=Yo (t:=gSet 6) (body:=Zl) (lo:=0) (n:=n) (σ:=sMb ns a n m g3.length (some (.int mm)) none none) (g:=g4)
  (fun i σ g'=>TabW g3.length n m g' g3.length∧(∃ k',cnt g' a k'∧k+1+nm≤k'∧k'≤k+1+nm+8*i)∧KeepsN g3.length [a] g4 g'∧∃ x2' x6' x7',σ=sMb ns a n m g3.length x2' x6' x7') ⟨Qjc t4 r1 r2 r3,⟨_,c4,by omega,by omega⟩,.refl,_,_,_,rfl⟩ (fun i σ g' hi ⟨q1,⟨k',q2,q3,q4⟩,q5,x2',x6',x7',hσ⟩=>by
   subst hσ
   obtain⟨y2,y7,g'',z1,z2,z3,z4⟩:=QkN (ns:=ns) (i:=i) (x2:=x2') (x7:=x7') q1 haN q2 (by omega) (by omega) hi hm
   exact⟨sMb ns a n m g3.length x2' (some (.int i)) x7',_,g'',by simp [sMb,gSet],z1,z2,⟨_,z3,by omega,by omega⟩,q5.trans z4,_,_,_,rfl⟩)
 obtain⟨rows',t5,w1,w2,w3⟩:=h5.back
 have kk:Keeps [a] g g5:=by
  have k34:Keeps [a] g3 g4:=k4
  have:KeepsN g3.length [a] g3 g5:=(k34.n (by simp)).trans k5
  exact((k1.trans k2).trans k3).trans this.keeps
 refine⟨g3.length,n,m,g3.length,rows',k',g5,Qz rfl (?_:YE [some (.fl (ns.map .int)),some (.ref a),none,none,none,none,none,none] g=_),t5,⟨hn0,hm0,by omega,hm,w1,w2,w3⟩,c5,by omega,by omega,kk,haN⟩
 unfold YE
 refine Qg (S none none none none) g1 (by simp [S,e]) (Qg (S (some (.int v)) none none none) g2 ?_ (Qg (S (some (.int v)) (some (.int u)) none none) g3 ?_ (Qg _ g3 s4 (Qg (sMb ns a n m g3.length (some (.int mm)) none none) g4 ?_ (Qg (sMb ns a n m g3.length x2' x6' x7') g5 ?_ rfl)))))
 ·exact Ze (JJ (Qev (xs:=[.int 1,.int 2,.int 2,.int 3,.int 3,.int 4]) (g1:=g1) (by simp) n2) (y:=.int (mm % 6)) (g2:=g2) (by simp [S]) e2)
 ·exact Ze (JJ (Qev (xs:=[.int 2,.int 2,.int 3,.int 2,.int 4,.int 1]) (g1:=g2) (by simp) n3) (y:=.int (mm / 6 % 6)) (g2:=g3) (by simp [S,ZM]) e3)
 ·exact Ze (by rw [Zx (ds:=[.fl (ns.map .int),.ref a,.int n,.int m]) (g':=g3) rfl]; exact e4)
 ·have hrg:QD (mVar 3) (sMb ns a n m g3.length (some (.int mm)) none none) g4=.ok (Q8 0 n) g4:=Yq (by simp [sMb]) (Qby (by omega))
  rw [QaG hrg]
  exact f5
end L3
end
section
namespace L3
open PySem
theorem QgN {n m:Nat} {S:RowN} (ho:OkN n m S):YH S.st S.L (putN S.R S.own 1)=S:=by
 unfold YH
 have q1:Qk (putN S.R S.own 1)=S.own:=Qem (by omega)
 have q2:Qo (putN S.R S.own 1) 1=S.R:=by
  have:=Qcv (t:=S.own) (x:=0) ho.R (.inr rfl)
  rw [Jq ho.R] at this
  exact this
 rw [q1,q2]
theorem StR.ok {n m:Nat} {g:G} {d:D} {st:Nat} {L R:Sts} {a b:Nat} (h:StR n m g d st L R a b) (hm:0<m):OkN n m (YH st L R):=by
 have hn:=JY h.R' hm
 exact⟨h.s',hn.1,hn.2,h.L',QW h.R'⟩
theorem RowIn.mono {n m:Nat} {g g1:G} {S:RowN} {a b:Nat} (h:RowIn n m g S a b) (k:Keeps [] g g1):RowIn n m g1 S a b:=StR.mono h k
theorem Qic {ds:List D} {g:G}:pEq (.tup ds) (.str (Str.ofString "too long")) g=.ok (.bl false) g:=rfl
theorem QeD {ds:List D} {g:G}:pIs (.tup ds) .non g=.ok (.bl false) g:=rfl
theorem QgO {n m:Nat} {g:G} {S:RowN} {a b c d:Nat} {x y z:Int} (h1:RowIn n m g S a b) (h2:RowIn n m g S c d) (hz:S.L.length+S.R.length≤900):∃ g',ZL 6 [Zg S a b x y z,Zg S c d x y z] g=.ok (.bl true) g'∧Keeps [] g g':=by
 have hp:=Js S.R S.own 1
 refine QdI (.seq 5 _ _ false [rowD S a b,.int x,.int y,.int z] [rowD S c d,.int x,.int y,.int z] rfl rfl rfl (by simp) (fun i u v e1 e2=>?_)) g .refl
 match i,e1,e2 with
 | 0,e1,e2=>cases e1; cases e2; exact Qeu (f:=1) h1.a' h1.b' h2.a' h2.b' (by omega) (by omega)
 | 1,e1,e2=>cases e1; cases e2; exact .int _ _
 | 2,e1,e2=>cases e1; cases e2; exact .int _ _
 | 3,e1,e2=>cases e1; cases e2; exact .int _ _
 | i+4,e1,_=>simp at e1
theorem Qe8 {n m:Nat} {g:G} {S:RowN} {a b c d:Nat} {x y:Int} (h1:RowIn n m g S a b) (h2:RowIn n m g S c d) (hz:S.L.length+S.R.length≤900):∃ g',ZL 6 [.tup [rowD S a b,.int x,.int y],.tup [rowD S c d,.int x,.int y]] g=.ok (.bl true) g'∧Keeps [] g g':=by
 have hp:=Js S.R S.own 1
 refine QdI (.seq 5 _ _ false [rowD S a b,.int x,.int y] [rowD S c d,.int x,.int y] rfl rfl rfl (by simp) (fun i u v e1 e2=>?_)) g .refl
 match i,e1,e2 with
 | 0,e1,e2=>cases e1; cases e2; exact Qeu (f:=1) h1.a' h1.b' h2.a' h2.b' (by omega) (by omega)
 | 1,e1,e2=>cases e1; cases e2; exact .int _ _
 | 2,e1,e2=>cases e1; cases e2; exact .int _ _
 | i+3,e1,_=>simp at e1
theorem QhD {rows:List (List D)} {n m M k:Nat} {d:D} {steps c:Int} {g:G} {st:Nat} {L R:Sts} {a b a0 b0:Nat} {q:RowN×Int×Int×Int} (T:Tb rows n m) (hM:g[M]?=some (Jo rows)) (h:StR n m g d st L R a b) (hz:L.length+R.length≤20) (hk:k≤40) (hr:runN rows k (YH st L R) steps=some q) (hq:RowIn n m g q.1 a0 b0) (h0:0≤c) (h1:c≤steps) :
  ∃ g',Qaa [.ref M,d,.int steps,.int c,Zg q.1 a0 b0 q.2.1 q.2.2.1 q.2.2.2] g=.ok (.bl true) g'∧Keeps [] g g':=by
 have ho:=h.ok T.m0
 obtain⟨qa,qb,x1,x2,x3,x4,x5,x6⟩:=Qgy T k _ steps c q ho h0 h1 hr
 obtain⟨oa,_,ha2,_,_⟩:=Qgx T 50 _ c qa ho h0 (x1 50 (by omega))
 obtain⟨g1,k1,y1⟩:=QbC (k:=50) (steps:=c) T hM h (by omega)
 rw [x1 50 (by omega)] at y1
 obtain⟨a1,b1,r1,e1,l1⟩:=y1
 have hp1:=Js qa.1.R qa.1.own 1
 obtain⟨g2,k2,y2⟩:=QbC (k:=50) (steps:=steps - c) T (k1.at' _ _ (by simp) hM) r1 (by omega)
 rw [QgN oa,x2 50 (by omega)] at y2
 obtain⟨a2,b2,r2,e2,l2⟩:=y2
 have kk:=k1.trans k2
 rw [x3] at r2 l2
 rw [show((50:Nat):Int)=50 from rfl] at e1 e2
 obtain⟨g3,e3,k3⟩:=Qe8 (x:=q.2.1) (y:=q.2.2.1) r2 (hq.mono kk) (by omega)
 refine⟨g3,Qz rfl (?_:Qbs [some (.ref M),some d,some (.int steps),some (.int c),some (Zg q.1 a0 b0 q.2.1 q.2.2.1 q.2.2.2),none,none] g=_),kk.trans k3⟩
 unfold Qbs
 refine Qg [some (.ref M),some d,some (.int steps),some (.int c),some (Zg q.1 a0 b0 q.2.1 q.2.2.1 q.2.2.2),some (Zg qa.1 a1 b1 qa.2.1 qa.2.2.1 qa.2.2.2),none] g1 (by simp [e1]) ?_
 refine Qg [some (.ref M),some d,some (.int steps),some (.int c),some (Zg q.1 a0 b0 q.2.1 q.2.2.1 q.2.2.2),some (Zg qa.1 a1 b1 qa.2.1 qa.2.2.1 qa.2.2.2),none] g1 (iff' g1 (by unfold Zg; simp [Qic,QeD]; omega) rfl) ?_
 refine Qg [some (.ref M),some d,some (.int steps),some (.int c),some (Zg q.1 a0 b0 q.2.1 q.2.2.1 q.2.2.2),some (Zg qa.1 a1 b1 qa.2.1 qa.2.2.1 qa.2.2.2),some (Zg qb.1 a2 b2 qb.2.1 qb.2.2.1 qb.2.2.2)] g2 (by rw [show Zg qa.1 a1 b1 qa.2.1 qa.2.2.1 qa.2.2.2=.tup [rowD qa.1 a1 b1,.int qa.2.1,.int qa.2.2.1,.int qa.2.2.2] from rfl]; simp [e2]) ?_
 refine Qg [some (.ref M),some d,some (.int steps),some (.int c),some (Zg q.1 a0 b0 q.2.1 q.2.2.1 q.2.2.2),some (Zg qa.1 a1 b1 qa.2.1 qa.2.2.1 qa.2.2.2),some (Zg qb.1 a2 b2 qb.2.1 qb.2.2.1 qb.2.2.2)] g2 (iff' g2 (by unfold Zg; simp [Qic,QeD]) rfl) ?_
 have sl:J5 (Zg q.1 a0 b0 q.2.1 q.2.2.1 q.2.2.2) none (some 3) g2=.ok (.tup [rowD q.1 a0 b0,.int q.2.1,.int q.2.2.1]) g2:=rfl
 refine Qg [some (.ref M),some d,some (.int steps),some (.int c),some (Zg q.1 a0 b0 q.2.1 q.2.2.1 q.2.2.2),some (Zg qa.1 a1 b1 qa.2.1 qa.2.2.1 qa.2.2.2),some (Zg qb.1 a2 b2 qb.2.1 qb.2.2.1 qb.2.2.2)] g3 (iff' g3 ?_ rfl) ?_
 ·simp only [QdD,Qgs,Qi4,Qi3,QkD,Qc9,Qgr,Qh5,QkC,QhC,QgF,Qjb,List.getElem?_cons_succ,List.getElem?_cons_zero,sl]
  unfold Zg
  simp only [QkE,QkF,QkG,Qh7,x4,x5,x3,Qja]
  unfold Zg at sl
  simp [SZ,sl,e3]
 ·unfold Zg
  rcases x6 with x6 | x6 <;> simp [SZ,x6,pIn,QE,Qbe,eqF]
end L3
end
section
namespace L3
open PySem
theorem QgP {g:G} {s a:Nat} {row:Sts} {k:Int} (h:g[s]?=some (.lst (stsD row))) (hc:cnt g a k):s≠a:=fun e=>by
 subst e
 have hc:=h.symm.trans hc
 injection hc with hc
 injection hc with hc
 cases row with
 | nil=>cases hc
 | cons p r=>simp [stsD,stD] at hc
theorem StR.monoA {n m:Nat} {g g1:G} {d:D} {st:Nat} {L R:Sts} {a b c:Nat} {k:Int} (h:StR n m g d st L R a b) (kp:Keeps [c] g g1) (hc:cnt g c k):StR n m g1 d st L R a b :=
 ⟨h.d',kp.at' _ _ (by simp; exact QgP h.a' hc) h.a',kp.at' _ _ (by simp; exact QgP h.b' hc) h.b',h.L',h.R',h.s'⟩
theorem Qje {g:G} {M a:Nat} {rows:List (List D)} {k:Int} (h:g[M]?=some (Jo rows)) (hc:cnt g a k):M≠a:=fun e=>by
 subst e
 cases h.symm.trans hc
theorem YR {g g1:G} {M a:Nat} {rows:List (List D)} {k:Int} (h:g[M]?=some (Jo rows)) (hc:cnt g a k) (kp:Keeps [a] g g1):g1[M]?=some (Jo rows):=kp.at' _ _ (by simp; exact Qje h hc) h
theorem QhE (ns:List Int) (a:Nat) (k:Int) (g:G) (hg:cnt g a k) (hk:0≤k) (hk2:k<700000000) :
  ∃ k' g',Qbu [.fl (ns.map .int),.ref a] g=.ok (.bl true) g'∧cnt g' a k'∧k≤k'∧k'≤k+1000:=by
 obtain⟨N,n,m,t,rows,k1,g1,e1,t1,T,c1,h11,h12,_,haN⟩:=Qlz ns a k g hg hk (by omega)
 have hgood:=entOk.good T.n0 T.m0 T.len T.row T.ent
 have n0:=T.n0; have m0:=T.m0; have n12:=T.n12; have m8:=T.m8
 obtain⟨g2,kp2,e2,hM2⟩:=Qi1 (.ref t) rows g1 t1.rows (fun r hr=>by rw [T.row r hr]; exact Nat.le_of_lt (Qc8 (by omega))) (by rw [T.len]; exact Nat.le_of_lt (Qc8 (by omega))) (fun r hr d hd=>(T.ent r hr d hd).thing) (Qb (mVar 2) mNil) [some (.fl (ns.map .int)),some (.ref a),some (.ref t),none,none,none,none,none,none,none,none,none] g1 rfl
 rw [if_pos hgood] at e2
 have hM:=hM2 hgood
 have c2:=kp2.at' _ _ (by simp) c1
 have t2:=t1.mono kp2 (by simp)
 generalize hMM:g1.length=M at e2 hM
 obtain⟨row0,d0,hr0,hd0,_⟩:=T.at T.n0 T.m0
 obtain⟨x0,p1,_,p3,_⟩:=Qib t2 hr0 hd0
 have hl0:row0.length=m:=T.row _ (List.mem_of_getElem? hr0)
 obtain⟨_,ds,td1,td2,_⟩:=id t2
 obtain⟨v,v1,v2,e5⟩:=Jp ns a k1 g2 c2 (by omega) (by omega)
 have hn':(0:Int)<n:=by omega
 have kp3:Keeps [a] g2 (g2.set a (.lst [.int (k1+1)])):=.set _ _
 have c3:cnt (g2.set a (.lst [.int (k1+1)])) a (k1+1):=QG c2
 have hlen:(g2.set a (.lst [.int (k1+1)]))[t]?=some (.lst ds):=by rw [List.getElem?_set_ne (by have:=t2.1; omega)]; exact td1
 have hM3:=YR hM c2 kp3
 have t3:=t2.mono kp3 (by simpa using haN)
 generalize g2.set a (.lst [.int (k1+1)])=g3 at e5 kp3 c3 hlen hM3 t3
 obtain⟨L,s4,k4,g4,e4,s4',gL,lL,c4,h41,h42,kp4⟩:=QeC ns a (k1+1) m g3 c3 (by omega) (by omega) T.m0
 obtain⟨R,s6,k6,g6,e6,s6',gR,lR,c6,h61,h62,kp6⟩:=QeC ns a k4 m g4 c4 (by omega) (by omega) T.m0
 have hM6:=YR (YR hM3 c3 kp4) c4 kp6
 have t6:=(t3.mono kp4 (by simpa using haN)).mono kp6 (by simpa using haN)
 have hst:0≤v % n∧v % n<n:=⟨Int.emod_nonneg _ (by omega),Int.emod_lt_of_pos _ hn'⟩
 obtain⟨st,hst'⟩:∃ st:Nat,v % n=(st:Int):=⟨(v % n).toNat,by omega⟩
 have S6:StR n m g6 (.tup [.int st,.ref s4,.ref s6]) st L R s4 s6:=⟨rfl,kp6.at' _ _ (by simp; exact QgP s4' c4) s4',s6',gL,gR,by omega⟩
 obtain⟨mm,m1,m2,e7⟩:=Jp ns a k6 g6 c6 (by omega) (by omega)
 have kp7:Keeps [a] g6 (g6.set a (.lst [.int (k6+1)])):=.set _ _
 have c7:cnt (g6.set a (.lst [.int (k6+1)])) a (k6+1):=QG c6
 generalize g6.set a (.lst [.int (k6+1)])=g7 at e7 kp7 c7
 obtain⟨w,w1,e8⟩:=QgL ns a (k6+1) g7 c7 (by omega) (by omega)
 have kp8:Keeps [a] g7 (g7.set a (.lst [.int (k6+1+1)])):=.set _ _
 have c8:cnt (g7.set a (.lst [.int (k6+1+1)])) a (k6+1+1):=QG c7
 generalize g7.set a (.lst [.int (k6+1+1)])=g8 at e8 kp8 c8
 have S8:=(S6.monoA kp7 c6).monoA kp8 c7
 have hM8:=YR (YR hM6 c6 kp7) c7 kp8
 have t8:=(t6.mono kp7 (by simpa using haN)).mono kp8 (by simpa using haN)
 obtain⟨steps,hs0,hsteps⟩:∃ steps,0≤steps∧steps=if mm % 4=0 then mm / 4 % 30 else w:=⟨_,by split <;> omega,rfl⟩
 obtain⟨q,hq⟩:∃ q:Nat,mm / 120 % 41=(q:Int):=⟨(mm / 120 % 41).toNat,by omega⟩
 have hq40:q≤40:=by omega
 obtain⟨g9,kp9,y9⟩:=Qe6 (k:=q) (steps:=steps) T S8 t8 (by omega)
 have S9:=S8.mono kp9
 have hM9:=kp9.at' _ _ (by simp) hM8
 have c9:=kp9.at' _ _ (by simp) c8
 obtain⟨g10,kp10,y10⟩:=QbC (k:=q) (steps:=steps) T hM9 S9 (by omega)
 have c10:=kp10.at' _ _ (by simp) c9
 let Z:Option D->Option D->Option D->Option D->Option D->Option D->Option D->Option D->Option D->S3:=fun x3 x4 x5 x6 x7 x8 x9 x10 x11=>[some (.fl (ns.map .int)),some (.ref a),some (.ref t),x3,x4,x5,x6,x7,x8,x9,x10,x11]
 have pre:∀ due found Ro,Jn [.ref t,.tup [.int st,.ref s4,.ref s6],.int steps,.int q] g8=.ok due g9->Y1 [.ref M,.tup [.int st,.ref s4,.ref s6],.int steps,.int q] g9=.ok found g10 ->
   mSeq (mIf (Qh (mOp2 pIs (mVar 10) (mLit .non))) (mRet (mOp2 pEq (mVar 11) (mLit (.str (Str.ofString "too long"))))) Qy) (mSeq (mIf (Je (Qh (Qn (ZL 6) (Qb (mVar 11) (Qb (mVar 10) mNil))))) (mRet (mLit (.bl false))) Qy) (mRet (Qn Qaa (Qb (mVar 3) (Qb (mVar 6) (Qb (mVar 8) (Qb (mOp2 pMod (Qn JV (Qb (mVar 0) (Qb (mVar 1) mNil))) (mOp2 pAdd (mVar 8) (mLit (.int 1)))) (Qb (mVar 10) mNil)))))))) (Z (some (.ref M)) (some (.int m)) (some (.int st)) (some (.tup [.int st,.ref s4,.ref s6])) (some (.int mm)) (some (.int steps)) (some (.int q)) (some due) (some found)) g10=Ro ->
   Qbt [some (.fl (ns.map .int)),some (.ref a),none,none,none,none,none,none,none,none,none,none] g=Ro:=fun due found Ro hd hf hR=>by
  unfold Qbt
  refine Qg (Z none none none none none none none none none) g1 (Ze (by rw [Zx (ds:=[.fl (ns.map .int),.ref a]) (g':=g) rfl]; exact e1)) ?_
  refine Qg (Z (some (.ref M)) none none none none none none none none) g2 (Ze e2) ?_
  refine Qg (Z (some (.ref M)) (some (.int m)) none none none none none none none) g2 (Ze (Qaf (JJ (x:=.ref t) (y:=.int 0) (g1:=g2) (g2:=g2) rfl rfl p1) (by rw [JK p3,hl0]))) ?_
  refine Qg (Z (some (.ref M)) (some (.int m)) (some (.int st)) none none none none none none) g3 (Ze (JJ (x:=.int v) (y:=.int n) (g1:=g3) (g2:=g3) (by rw [Zx (ds:=[.fl (ns.map .int),.ref a]) (g':=g2) rfl]; exact e5) (Qaf (x:=.ref t) (g1:=g3) rfl (by rw [JK hlen,td2,T.len])) (by rw [QbD hn',hst']))) ?_
  refine Qg (Z (some (.ref M)) (some (.int m)) (some (.int st)) (some (.tup [.int st,.ref s4,.ref s6])) none none none none none) g6 (Ze (Qev (xs:=[.int st,.ref s4,.ref s6]) (g1:=g6) (Y3 (g1:=g3) rfl (Y3 (g1:=g4) (by rw [Zx (ds:=[.fl (ns.map .int),.ref a,.int m]) (g':=g3) rfl]; exact e4) (Y3 (g1:=g6) (by rw [Zx (ds:=[.fl (ns.map .int),.ref a,.int m]) (g':=g4) rfl]; exact e6) rfl))) rfl)) ?_
  refine Qg (Z (some (.ref M)) (some (.int m)) (some (.int st)) (some (.tup [.int st,.ref s4,.ref s6])) (some (.int mm)) none none none none) g7 (Ze (by rw [Zx (ds:=[.fl (ns.map .int),.ref a]) (g':=g6) rfl]; exact e7)) ?_
  refine Qg (Z (some (.ref M)) (some (.int m)) (some (.int st)) (some (.tup [.int st,.ref s4,.ref s6])) (some (.int mm)) (some (.int w)) none none none) g8 (Ze (by rw [Zx (ds:=[.fl (ns.map .int),.ref a]) (g':=g7) rfl]; exact e8)) ?_
  refine Qg (Z (some (.ref M)) (some (.int m)) (some (.int st)) (some (.tup [.int st,.ref s4,.ref s6])) (some (.int mm)) (some (.int steps)) none none none) g8 ?_ ?_
  ·by_cases h4:mm % 4=0
   ·rw [hsteps,if_pos h4]; exact ift g8 (by simp [Z,h4]) (by simp [Z,ZM])
   ·rw [hsteps,if_neg h4]; exact iff' g8 (by simp [Z,h4]) rfl
  refine Qg (Z (some (.ref M)) (some (.int m)) (some (.int st)) (some (.tup [.int st,.ref s4,.ref s6])) (some (.int mm)) (some (.int steps)) (some (.int q)) none none) g8 (by simp [Z,ZM,hq]) ?_
  refine Qg (Z (some (.ref M)) (some (.int m)) (some (.int st)) (some (.tup [.int st,.ref s4,.ref s6])) (some (.int mm)) (some (.int steps)) (some (.int q)) (some due) none) g9 (Ze (by rw [Zx (ds:=[.ref t,.tup [.int st,.ref s4,.ref s6],.int steps,.int q]) (g':=g8) rfl]; exact hd)) ?_
  exact Qg _ g10 (Ze (by rw [Zx (ds:=[.ref M,.tup [.int st,.ref s4,.ref s6],.int steps,.int q]) (g':=g9) rfl]; exact hf)) hR
 cases hr:runN rows q (YH st L R) steps with
 | none =>
  rw [hr] at y9 y10
  refine⟨_,g10,Qz rfl (pre _ _ _ y9 y10 (Y9 (ift g10 rfl ?_))),c10,by omega,by omega⟩
  simp [Z,eq_str,tooS]
 | some r =>
  rw [hr] at y9 y10
  obtain⟨a9,b9,r9,f9⟩:=y9
  obtain⟨a10,b10,r10,f10,l10⟩:=y10
  have r9':=r9.mono kp10
  obtain⟨g11,e11,kp11⟩:=QgO (x:=r.2.1) (y:=r.2.2.1) (z:=r.2.2.2) r10 r9' (by omega)
  have c11:=kp11.at' _ _ (by simp) c10
  obtain⟨u,u1,e12⟩:=QgL ns a (k6+1+1) g11 c11 (by omega) (by omega)
  have kp12:Keeps [a] g11 (g11.set a (.lst [.int (k6+1+1+1)])):=.set _ _
  have c12:cnt (g11.set a (.lst [.int (k6+1+1+1)])) a (k6+1+1+1):=QG c11
  generalize g11.set a (.lst [.int (k6+1+1+1)])=g12 at e12 kp12 c12
  have S12:=((S9.mono kp10).mono kp11).monoA kp12 c11
  have hM12:=YR (kp11.at' _ _ (by simp) (kp10.at' _ _ (by simp) hM9)) c11 kp12
  have r12:RowIn n m g12 r.1 a9 b9:=StR.monoA (r9'.mono kp11) kp12 c11
  have hc0:0≤u % (steps+1)∧u % (steps+1)<steps+1:=⟨Int.emod_nonneg _ (by omega),Int.emod_lt_of_pos _ (by omega)⟩
  obtain⟨g13,e13,kp13⟩:=QhD (c:=u % (steps+1)) T hM12 S12 (by omega) hq40 hr r12 hc0.1 (by omega)
  refine⟨_,g13,Qz rfl (pre _ _ _ f9 f10 (Qg _ g10 (iff' g10 rfl rfl) (Qg _ g11 (iff' g11 ?_ rfl) (Qbw ?_)))),kp13.at' _ _ (by simp) c12,by omega,by omega⟩
  ·exact Qh4 (JW (by rw [Zx (ds:=[Zg r.1 a10 b10 r.2.1 r.2.2.1 r.2.2.2,Zg r.1 a9 b9 r.2.1 r.2.2.1 r.2.2.2]) (g':=g10) rfl]; exact e11))
  ·rw [Zx (ds:=[.ref M,.tup [.int st,.ref s4,.ref s6],.int steps,.int (u % (steps+1)),Zg r.1 a9 b9 r.2.1 r.2.2.1 r.2.2.2]) (g':=g12)]
   ·exact e13
   ·exact Y3 (g1:=g11) rfl (Y3 (g1:=g11) rfl (Y3 (g1:=g11) rfl (Y3 (g1:=g12) (JJ (x:=.int u) (y:=.int (steps+1)) (g1:=g12) (g2:=g12) (by rw [Zx (ds:=[.fl (ns.map .int),.ref a]) (g':=g11) rfl]; exact e12) rfl (QbD (by omega))) (Y3 (g1:=g12) rfl rfl))))
theorem QlA {α:Type} (xs:List α):(cutD xs none (some 63)).length≤xs.length:=by unfold cutD; simp; omega
theorem law_true (ns:List Int) (h:ns.length≤63):∃ g',Qhq [.fl (ns.map .int)] []=.ok (.bl true) g':=by
 have hlen:=QlA (ns.map D.int)
 rw [List.length_map] at hlen
 obtain⟨z,hz⟩:∃ z:Nat,1+((cutD (ns.map D.int) none (some 63)).length:Int) / 32=(z:Int):=⟨(1+((cutD (ns.map D.int) none (some 63)).length:Int) / 32).toNat,by omega⟩
 have hz2:z≤2:=by omega
 have c0:cnt ([.lst [.int 0]]++[.lst (cutD (ns.map D.int) none (some 63))]) 0 0:=rfl
 generalize hg0:([.lst [.int 0]]++[.lst (cutD (ns.map D.int) none (some 63))]:G)=g0 at c0
 obtain⟨σ',g',f1,⟨k',_⟩,x2,rfl⟩:=Yo (t:=gSet 2) (body:=Qei) (lo:=0) (n:=z) (σ:=[some (.fl (ns.map .int)),some (.ref 0),none]) (g:=g0)
  (fun i σ g'=>(∃ k',cnt g' 0 k'∧0≤k'∧k'≤1000*i)∧∃ x2,σ=[some (.fl (ns.map .int)),some (.ref 0),x2]) ⟨⟨0,c0,by omega,by omega⟩,none,rfl⟩ (fun i σ g' hi ⟨⟨k',q1,q2,q3⟩,x2,hσ⟩=>by
   subst hσ
   obtain⟨k2,g2,e2,c2,h1,h2⟩:=QhE ns 0 k' g' q1 q2 (by omega)
   refine⟨[some (.fl (ns.map .int)),some (.ref 0),some (.int (0+i))],[some (.fl (ns.map .int)),some (.ref 0),some (.int (0+i))],g2,rfl,iff' g2 (Qh4 (JW ?_)) rfl,⟨k2,c2,by omega,by omega⟩,_,rfl⟩
   rw [Zx (ds:=[.fl (ns.map .int),.ref 0]) (g':=g') rfl]; exact e2)
 refine⟨g',Qz rfl (Qg [some (.fl (ns.map .int)),some (.ref 0),none] [.lst [.int 0]] rfl (Qg [some (.fl (ns.map .int)),some (.ref 0),x2] g' ?_ rfl))⟩
 have hrg:QD (mOp2 pAdd (mLit (.int 1)) (mOp2 Zp (mOp1 pLen (Yg (mVar 0) ZG (JD (mLit (.int 63))))) (mLit (.int 32)))) [some (.fl (ns.map .int)),some (.ref 0),none] [.lst [.int 0]]=.ok (Q8 0 z) g0:=by
  refine Yq ?_ (Qby (by omega))
  have e1:J5 (.fl (ns.map .int)) none (some 63) [.lst [.int 0]]=.ok (.ref 1) g0:=by rw [← hg0]; rfl
  have e2:pLen (.ref 1) g0=.ok (.int (cutD (ns.map D.int) none (some 63)).length) g0:=JK (by rw [← hg0]; rfl)
  rw [← hz]
  simp [e1,e2,ZM]
 rw [QaG hrg]
 exact f1
end L3
end
section
namespace V
open PySem PySem.Spec PyProof.Rows L2 L3
noncomputable def top (i:Nat):Stmt:=PySem.Challenge.pw_tapeproof_k23_fast_far.main.body.getD i (.Pass ⟨0,0,0,0⟩)
noncomputable abbrev Yb:Stmt:=top 6
noncomputable abbrev Qe9:List Str:=["value"]
theorem QdK:FnScope Qe9 ["value"] (Qd Yb):=⟨rfl,rfl,rfl,by decide +kernel,rfl,by decide +kernel,by decide +kernel⟩
noncomputable abbrev Yc:Stmt:=top 7
noncomputable abbrev Qfa:List Str:=["value", "many"]
theorem QdL:FnScope Qfa ["value", "many"] (Qd Yc):=⟨rfl,rfl,rfl,by decide +kernel,rfl,by decide +kernel,by decide +kernel⟩
noncomputable abbrev QQ:Stmt:=top 8
noncomputable abbrev QaO:List Str:=["value"]
theorem Qau:FnScope QaO ["value"] (Qd QQ):=⟨rfl,rfl,rfl,by decide +kernel,rfl,by decide +kernel,by decide +kernel⟩
noncomputable abbrev Yd:Stmt:=top 13
noncomputable abbrev Qfb:List Str:=["thing", "states", "signs"]
theorem QdM:FnScope Qfb ["thing", "states", "signs"] (Qd Yd):=⟨rfl,rfl,rfl,by decide +kernel,rfl,by decide +kernel,by decide +kernel⟩
noncomputable abbrev Zh:Stmt:=top 14
noncomputable abbrev QaI:List Str:=["rows", "states", "signs", "row"]
theorem sc_check_rows:FnScope QaI ["rows"] (Qd Zh):=⟨rfl,rfl,rfl,by decide +kernel,rfl,by decide +kernel,by decide +kernel⟩
noncomputable abbrev QT:Stmt:=Qbc (top 15) 0
noncomputable abbrev JL:List Str:=["self", "table", "rows"]
theorem sc_Machine_init:FnScope JL ["self", "table"] (Qd QT):=⟨rfl,rfl,rfl,by decide +kernel,rfl,by decide +kernel,by decide +kernel⟩
noncomputable abbrev ZT:Stmt:=top 16
noncomputable abbrev QdN:List Str:=["machine"]
theorem Qdg:FnScope QdN ["machine"] (Qd ZT):=⟨rfl,rfl,rfl,by decide +kernel,rfl,by decide +kernel,by decide +kernel⟩
noncomputable abbrev Ye:Stmt:=top 17
noncomputable abbrev Qfc:List Str:=["machine"]
theorem QdO:FnScope Qfc ["machine"] (Qd Ye):=⟨rfl,rfl,rfl,by decide +kernel,rfl,by decide +kernel,by decide +kernel⟩
noncomputable abbrev Zm:Stmt:=top 19
noncomputable abbrev QcD:List Str:=["side", "sign", "count"]
theorem QbU:FnScope QcD ["side", "sign", "count"] (Qd Zm):=⟨rfl,rfl,rfl,by decide +kernel,rfl,by decide +kernel,by decide +kernel⟩
noncomputable abbrev ZD:Stmt:=top 20
noncomputable abbrev Qdh:List Str:=["thing"]
theorem QcE:FnScope Qdh ["thing"] (Qd ZD):=⟨rfl,rfl,rfl,by decide +kernel,rfl,by decide +kernel,by decide +kernel⟩
noncomputable abbrev Zi:Stmt:=top 21
noncomputable abbrev QaJ:List Str:=["side", "stretch", "following"]
theorem sc_check_side:FnScope QaJ ["side"] (Qd Zi):=⟨rfl,rfl,rfl,by decide +kernel,rfl,by decide +kernel,by decide +kernel⟩
noncomputable abbrev QK:Stmt:=top 22
noncomputable abbrev Qav:List Str:=["stretches"]
theorem Qaj:FnScope Qav ["stretches"] (Qd QK):=⟨rfl,rfl,rfl,by decide +kernel,rfl,by decide +kernel,by decide +kernel⟩
noncomputable abbrev Qfd:Stmt:=top 24
noncomputable abbrev QlB:List Str:=["side", "sign", "count"]
theorem QkO:FnScope QlB ["side", "sign", "count"] (Qd Qfd):=⟨rfl,rfl,rfl,by decide +kernel,rfl,by decide +kernel,by decide +kernel⟩
noncomputable abbrev Qcb:Stmt:=top 25
noncomputable abbrev QkP:List Str:=["side", "count", "nearest"]
theorem sc_drop:FnScope QkP ["side", "count"] (Qd Qcb):=⟨rfl,rfl,rfl,by decide +kernel,rfl,by decide +kernel,by decide +kernel⟩
noncomputable abbrev Q4:Stmt:=top 26
noncomputable abbrev QbV:List Str:=["side"]
theorem QbE:FnScope QbV ["side"] (Qd Q4):=⟨rfl,rfl,rfl,by decide +kernel,rfl,by decide +kernel,by decide +kernel⟩
noncomputable abbrev Qaw:Stmt:=top 27
noncomputable abbrev Qjf:List Str:=["side", "sign", "most"]
theorem QhF:FnScope Qjf ["side", "sign", "most"] (Qd Qaw):=⟨rfl,rfl,rfl,by decide +kernel,rfl,by decide +kernel,by decide +kernel⟩
noncomputable abbrev QX:Stmt:=Qbc (top 28) 0
noncomputable abbrev QbF:List Str:=["self", "machine", "stretches"]
theorem QaP:FnScope QbF ["self", "machine", "stretches"] (Qd QX):=⟨rfl,rfl,rfl,by decide +kernel,rfl,by decide +kernel,by decide +kernel⟩
noncomputable abbrev QR:Stmt:=Qbc (top 28) 1
noncomputable abbrev QaQ:List Str:=["self"]
theorem Qax:FnScope QaQ ["self"] (Qd QR):=⟨rfl,rfl,rfl,by decide +kernel,rfl,by decide +kernel,by decide +kernel⟩
noncomputable abbrev QY:Stmt:=Qbc (top 28) 2
noncomputable abbrev QbG:List Str:=["self", "asked", "entry", "rightwards", "ahead", "behind", "steps"]
theorem sc_FastWalk_leap:FnScope QbG ["self", "asked"] (Qd QY):=⟨rfl,rfl,rfl,by decide +kernel,rfl,by decide +kernel,by decide +kernel⟩
noncomputable abbrev Q5:Stmt:=Qbc (top 28) 3
noncomputable abbrev QbW:List Str:=["self", "right"]
theorem sc_FastWalk_row:FnScope QbW ["self"] (Qd Q5):=⟨rfl,rfl,rfl,by decide +kernel,rfl,by decide +kernel,by decide +kernel⟩
noncomputable abbrev QA:Stmt:=top 29
noncomputable abbrev YA:List Str:=["machine", "stretches", "signs", "side"]
theorem sc_check_of_machine:FnScope YA ["machine", "stretches"] (Qd QA):=⟨rfl,rfl,rfl,by decide +kernel,rfl,by decide +kernel,by decide +kernel⟩
noncomputable abbrev ZU:Stmt:=top 30
noncomputable abbrev QdP:List Str:=["machine", "stretches", "steps", "most", "walk", "done", "leaps"]
theorem sc_fast_from:FnScope QdP ["machine", "stretches", "steps", "most"] (Qd ZU):=⟨rfl,rfl,rfl,by decide +kernel,rfl,by decide +kernel,by decide +kernel⟩
noncomputable abbrev JA:Stmt:=top 32
noncomputable abbrev QhG:List Str:=["_law_script", "_law_at", "_law_cell", "_law_m"]
theorem sc_L_next:FnScope QhG ["_law_script", "_law_at"] (Qd JA):=⟨rfl,rfl,rfl,by decide +kernel,rfl,by decide +kernel,by decide +kernel⟩
noncomputable abbrev Y6:Stmt:=top 33
noncomputable abbrev QeE:List Str:=["_law_found", "_law_due"]
theorem QgQ:FnScope QeE ["_law_found", "_law_due"] (Qd Y6):=⟨rfl,rfl,rfl,by decide +kernel,rfl,by decide +kernel,by decide +kernel⟩
noncomputable abbrev YS:Stmt:=top 34
noncomputable abbrev QgR:List Str:=["_law_script", "_law_at", "_law_states", "_law_signs", "_law_table_here", "_law_k", "_law_line", "_law_j", "_law_m", "_law_entry"]
theorem sc_L_table:FnScope QgR ["_law_script", "_law_at", "_law_states", "_law_signs"] (Qd YS):=⟨rfl,rfl,rfl,by decide +kernel,rfl,by decide +kernel,by decide +kernel⟩
noncomputable abbrev Q6:Stmt:=top 35
noncomputable abbrev QbX:List Str:=["_law_script", "_law_at", "_law_m", "_law_states", "_law_signs", "_law_table_here", "_law_k", "_law_j"]
theorem sc_L_machine_by:FnScope QbX ["_law_script", "_law_at"] (Qd Q6):=⟨rfl,rfl,rfl,by decide +kernel,rfl,by decide +kernel,by decide +kernel⟩
noncomputable abbrev Qay:Stmt:=top 36
noncomputable abbrev Qjg:List Str:=["_law_row", "_law_sign", "_law_count"]
theorem QhH:FnScope Qjg ["_law_row", "_law_sign", "_law_count"] (Qd Qay):=⟨rfl,rfl,rfl,by decide +kernel,rfl,by decide +kernel,by decide +kernel⟩
noncomputable abbrev Qaz:Stmt:=top 37
noncomputable abbrev Qjh:List Str:=["_law_row", "_law_count", "_law_sign", "_law_many"]
theorem sc_L_cut:FnScope Qjh ["_law_row", "_law_count"] (Qd Qaz):=⟨rfl,rfl,rfl,by decide +kernel,rfl,by decide +kernel,by decide +kernel⟩
noncomputable abbrev Yf:Stmt:=top 38
noncomputable abbrev Qfe:List Str:=["_law_row", "_law_sign", "_law_wanted"]
theorem QdQ:FnScope Qfe ["_law_row", "_law_sign", "_law_wanted"] (Qd Yf):=⟨rfl,rfl,rfl,by decide +kernel,rfl,by decide +kernel,by decide +kernel⟩
noncomputable abbrev JB:Stmt:=top 39
noncomputable abbrev QhI:List Str:=["_law_table_here", "_law_stretches", "_law_wanted", "_law_state", "_law_left", "_law_right", "_law_sign", "_law_entry", "_law_write", "_law_way", "_law_later", "_law_steps", "_law_own"]
theorem sc_L_leap:FnScope QhI ["_law_table_here", "_law_stretches", "_law_wanted"] (Qd JB):=⟨rfl,rfl,rfl,by decide +kernel,rfl,by decide +kernel,by decide +kernel⟩
noncomputable abbrev YT:Stmt:=top 40
noncomputable abbrev QgS:List Str:=["_law_table_here", "_law_stretches", "_law_steps", "_law_most", "_law_done", "_law_gone", "_law_leaps_here", "_law_found"]
theorem sc_L_leaps:FnScope QgS ["_law_table_here", "_law_stretches", "_law_steps", "_law_most"] (Qd YT):=⟨rfl,rfl,rfl,by decide +kernel,rfl,by decide +kernel,by decide +kernel⟩
noncomputable abbrev JC:Stmt:=top 41
noncomputable abbrev QhJ:List Str:=["_law_machine", "_law_stretches", "_law_steps", "_law_most", "_law_told"]
theorem sc_L_fast:FnScope QhJ ["_law_machine", "_law_stretches", "_law_steps", "_law_most"] (Qd JC):=⟨rfl,rfl,rfl,by decide +kernel,rfl,by decide +kernel,by decide +kernel⟩
noncomputable abbrev QaA:Stmt:=top 42
noncomputable abbrev Qji:List Str:=["_law_script", "_law_at", "_law_m", "_law_cell", "_law_size", "_law_k"]
theorem sc_L_far:FnScope Qji ["_law_script", "_law_at"] (Qd QaA):=⟨rfl,rfl,rfl,by decide +kernel,rfl,by decide +kernel,by decide +kernel⟩
noncomputable abbrev Zn:Stmt:=top 43
noncomputable abbrev QcF:List Str:=["_law_script", "_law_at", "_law_signs", "_law_row", "_law_last", "_law_k", "_law_m", "_law_sign", "_law_count"]
theorem sc_L_great_row:FnScope QcF ["_law_script", "_law_at", "_law_signs"] (Qd Zn):=⟨rfl,rfl,rfl,by decide +kernel,rfl,by decide +kernel,by decide +kernel⟩
noncomputable abbrev YU:Stmt:=top 44
noncomputable abbrev QgT:List Str:=["_law_machine", "_law_start", "_law_steps", "_law_cut_here", "_law_due", "_law_one", "_law_other"]
theorem sc_L_split:FnScope QgT ["_law_machine", "_law_start", "_law_steps", "_law_cut_here", "_law_due"] (Qd YU):=⟨rfl,rfl,rfl,by decide +kernel,rfl,by decide +kernel,by decide +kernel⟩
noncomputable abbrev YV:Stmt:=top 45
noncomputable abbrev QgU:List Str:=["_law_script", "_law_at", "_law_table_here", "_law_machine", "_law_signs", "_law_state", "_law_start", "_law_m", "_law_steps", "_law_most", "_law_due", "_law_found"]
theorem sc_L_round:FnScope QgU ["_law_script", "_law_at"] (Qd YV):=⟨rfl,rfl,rfl,by decide +kernel,rfl,by decide +kernel,by decide +kernel⟩
noncomputable abbrev QdR:Stmt:=top 46
noncomputable abbrev QlC:List Str:=["_law_script", "_law_at", "_law_k"]
theorem sc_law:FnScope QlC ["_law_script"] (Qd QdR):=⟨rfl,rfl,rfl,by decide +kernel,rfl,by decide +kernel,by decide +kernel⟩
structure Zk (K:PySem.W.Frag) (mg:Str->Option Value) (ca:Nat->Addr):Prop where
 z_all:mg "all" = none
 z_any:mg "any" = none
 z_bool:mg "bool" = none
 z_int:mg "int" = none
 z_isinstance:mg "isinstance" = none
 z_len:mg "len" = none
 z_list:mg "list" = none
 z_min:mg "min" = none
 z_range:mg "range" = none
 z_reversed:mg "reversed" = none
 z_str:mg "str" = none
 z_tuple:mg "tuple" = none
 z_zip:mg "zip" = none
 g_BLANK:∃ k,mg "BLANK" = some (.int 0 k)
 g_LEFT:∃ k,mg "LEFT" = some (.str (Str.ofString "l") k)
 g_RIGHT:∃ k,mg "RIGHT" = some (.str (Str.ofString "r") k)
 t_TooLong:mg "TooLong" = some (.ref (ca 6))∧CatX K ca (ca 6) [6] [0,1,5]
 e_TooLong:RaH K mg ca 6 "TooLong"
 a_left:FldOk K ca [13] "left"
 a_moved:FldOk K ca [13] "moved"
 a_own:FldOk K ca [13] "own"
 a_right:FldOk K ca [13] "right"
 a_state:FldOk K ca [13] "state"
 a_table:FldOk K ca [11,13] "table"
 u_is_whole:∃ f fd,Fun K "is_whole" "is_whole" Yb f fd∧mg "is_whole" = some (.ref f)
 u_is_below:∃ f fd,Fun K "is_below" "is_below" Yc f fd∧mg "is_below" = some (.ref f)
 u_is_from_nought:∃ f fd,Fun K "is_from_nought" "is_from_nought" QQ f fd∧mg "is_from_nought" = some (.ref f)
 u_is_entry:∃ f fd,Fun K "is_entry" "is_entry" Yd f fd∧mg "is_entry" = some (.ref f)
 u_check_rows:∃ f fd,Fun K "check_rows" "check_rows" Zh f fd∧mg "check_rows" = some (.ref f)
 u_Machine_init:∃ f fd,Fun K "__init__" "Machine.__init__" QT f fd∧Mk K (ca 11) f∧mg "Machine" = some (.ref (ca 11))
 u_states_of:∃ f fd,Fun K "states_of" "states_of" ZT f fd∧mg "states_of" = some (.ref f)
 u_signs_of:∃ f fd,Fun K "signs_of" "signs_of" Ye f fd∧mg "signs_of" = some (.ref f)
 u_add_stretch:∃ f fd,Fun K "add_stretch" "add_stretch" Zm f fd∧mg "add_stretch" = some (.ref f)
 u_is_stretch:∃ f fd,Fun K "is_stretch" "is_stretch" ZD f fd∧mg "is_stretch" = some (.ref f)
 u_check_side:∃ f fd,Fun K "check_side" "check_side" Zi f fd∧mg "check_side" = some (.ref f)
 u_check_stretches:∃ f fd,Fun K "check_stretches" "check_stretches" QK f fd∧mg "check_stretches" = some (.ref f)
 u_put:∃ f fd,Fun K "put" "put" Qfd f fd∧mg "put" = some (.ref f)
 u_drop:∃ f fd,Fun K "drop" "drop" Qcb f fd∧mg "drop" = some (.ref f)
 u_nearest_sign:∃ f fd,Fun K "nearest_sign" "nearest_sign" Q4 f fd∧mg "nearest_sign" = some (.ref f)
 u_alike:∃ f fd,Fun K "alike" "alike" Qaw f fd∧mg "alike" = some (.ref f)
 u_FastWalk_init:∃ f fd,Fun K "__init__" "FastWalk.__init__" QX f fd∧Mk K (ca 13) f∧mg "FastWalk" = some (.ref (ca 13))
 u_FastWalk_entry:∃ f fd,Fun K "entry" "FastWalk.entry" QR f fd∧Meth K (ca 13) "entry" f∧Cls K (ca 13)
 u_FastWalk_leap:∃ f fd,Fun K "leap" "FastWalk.leap" QY f fd∧Meth K (ca 13) "leap" f∧Cls K (ca 13)
 u_FastWalk_row:∃ f fd,Fun K "row" "FastWalk.row" Q5 f fd∧Meth K (ca 13) "row" f∧Cls K (ca 13)
 u_check_of_machine:∃ f fd,Fun K "check_of_machine" "check_of_machine" QA f fd∧mg "check_of_machine" = some (.ref f)
 u_fast_from:∃ f fd,Fun K "fast_from" "fast_from" ZU f fd∧mg "fast_from" = some (.ref f)
 u_L_next:∃ f fd,Fun K "_law_next" "_law_next" JA f fd∧mg "_law_next" = some (.ref f)
 u_L_same:∃ f fd,Fun K "_law_same" "_law_same" Y6 f fd∧mg "_law_same" = some (.ref f)
 u_L_table:∃ f fd,Fun K "_law_table" "_law_table" YS f fd∧mg "_law_table" = some (.ref f)
 u_L_machine_by:∃ f fd,Fun K "_law_machine_by" "_law_machine_by" Q6 f fd∧mg "_law_machine_by" = some (.ref f)
 u_L_put:∃ f fd,Fun K "_law_put" "_law_put" Qay f fd∧mg "_law_put" = some (.ref f)
 u_L_cut:∃ f fd,Fun K "_law_cut" "_law_cut" Qaz f fd∧mg "_law_cut" = some (.ref f)
 u_L_run_of:∃ f fd,Fun K "_law_run_of" "_law_run_of" Yf f fd∧mg "_law_run_of" = some (.ref f)
 u_L_leap:∃ f fd,Fun K "_law_leap" "_law_leap" JB f fd∧mg "_law_leap" = some (.ref f)
 u_L_leaps:∃ f fd,Fun K "_law_leaps" "_law_leaps" YT f fd∧mg "_law_leaps" = some (.ref f)
 u_L_fast:∃ f fd,Fun K "_law_fast" "_law_fast" JC f fd∧mg "_law_fast" = some (.ref f)
 u_L_far:∃ f fd,Fun K "_law_far" "_law_far" QaA f fd∧mg "_law_far" = some (.ref f)
 u_L_great_row:∃ f fd,Fun K "_law_great_row" "_law_great_row" Zn f fd∧mg "_law_great_row" = some (.ref f)
 u_L_split:∃ f fd,Fun K "_law_split" "_law_split" YU f fd∧mg "_law_split" = some (.ref f)
 u_L_round:∃ f fd,Fun K "_law_round" "_law_round" YV f fd∧mg "_law_round" = some (.ref f)
 u_law:∃ f fd,Fun K "law" "law" QdR f fd∧mg "law" = some (.ref f)
section
seal PE3 PT3 PW3 PA3 PS3 PSs3 PG3 PI3
variable {P:Program} {w:World} {K:PySem.W.Frag} {mg:Str->Option Value} {base:Heap} {ca:Nat->Addr}
theorem QbH (Z:Zk K mg ca):FnH P w K mg base ca "is_whole" 1 1 YL:=by
 obtain⟨f,fd,F,hm⟩:=Z.u_is_whole
 exact⟨⟨f,fd,["value"],Q7 F QdK rfl rfl (fun cdv A outer s H E hr=>(Qi (QH (Qbh (Yk .int Z.z_isinstance Z.z_int QhY (Qa 0)) (QcY (Qj7 (Yk .bool Z.z_isinstance Z.z_bool Qge (Qa 0)))))))),hm,F.kp,F.binds (ps:=["value"]) (fun _ _ _ _ _ _ us hl=>by obtain⟨_,rfl⟩:=L3.len1 hl; rfl)⟩,Qt _ _ _⟩
theorem QbI (Z:Zk K mg ca):FnH P w K mg base ca "is_below" 2 2 Zz:=by
 obtain⟨f,fd,F,hm⟩:=Z.u_is_below
 exact⟨⟨f,fd,["value", "many"],Q7 F QdL rfl rfl (fun cdv A outer s H E hr=>(Qi (QH (Qbh (Qp (QbH Z) (hr.mono (by omega)) (Qe (Qa 0) Ql)) (QcY (Qko Qf (Qa 0) (Qa 1))))))),hm,F.kp,F.binds (ps:=["value", "many"]) (fun _ _ _ _ _ _ us hl=>by obtain⟨_,_,rfl⟩:=L3.len2 hl; rfl)⟩,Qt _ _ _⟩
theorem ZV (Z:Zk K mg ca):FnH P w K mg base ca "is_from_nought" 2 1 QP:=by
 obtain⟨f,fd,F,hm⟩:=Z.u_is_from_nought
 exact⟨⟨f,fd,["value"],Q7 F Qau rfl rfl (fun cdv A outer s H E hr=>(Qi (QH (Qbh (Qp (QbH Z) (hr.mono (by omega)) (Qe (Qa 0) Ql)) (QcY (r_ge (Qa 0) Qf)))))),hm,F.kp,F.binds (ps:=["value"]) (fun _ _ _ _ _ _ us hl=>by obtain⟨_,rfl⟩:=L3.len1 hl; rfl)⟩,Qt _ _ _⟩
theorem QdS (Z:Zk K mg ca):FnH P w K mg base ca "is_entry" 3 3 Z9:=by
 obtain⟨f,fd,F,hm⟩:=Z.u_is_entry
 exact⟨⟨f,fd,["thing", "states", "signs"],Q7 F QdM rfl rfl (fun cdv A outer s H E hr=>(Qc (r_if (Qc2 (Qa 0) JF) (Qi (QH r_bl)) Qv)
 (Qc (r_if (r_w (QaK (JH (ZZ (Yk .tuple Z.z_isinstance Z.z_tuple Jx (Qa 0)))) (Jf (QaM hr (Z7 Z.z_len (Qa 0)) Qf)))) (Qi (QH r_bl)) Qv)
 (Qi (QH (Qbh (Qp (QbI Z) (hr.mono (by omega)) (Qe (Qj (Qa 0) Qf) (Qe (Qa 2) Ql))) (Qbh (r_in (Qj (Qa 0) Qf) (Yh (Qe (Qgc Z.g_LEFT) (Qe (Qgc Z.g_RIGHT) Ql)))) (QcY (Qp (QbI Z) (hr.mono (by omega)) (Qe (Qj (Qa 0) Qf) (Qe (Qa 1) Ql))))))))))),hm,F.kp,F.binds (ps:=["thing", "states", "signs"]) (fun _ _ _ _ _ _ us hl=>by obtain⟨_,_,_,rfl⟩:=L3.len3 hl; rfl)⟩,Qt _ _ _⟩
theorem QcG (Z:Zk K mg ca):FnH P w K mg base ca "check_rows" 4 1 ZB:=by
 obtain⟨f,fd,F,hm⟩:=Z.u_check_rows
 exact⟨⟨f,fd,["rows"],Q7 F sc_check_rows rfl rfl (fun cdv A outer s H E hr=>(Qc (r_if (Z6 hr (Z7 Z.z_len (Qa 0)) Qf) (Qi Yi) Qv)
 (Qc (Qw 1 sc_check_rows.nd (Z7 Z.z_len (Qa 0)))
 (Qc (Qw 2 sc_check_rows.nd (Z7 Z.z_len (Qj (Qa 0) Qf)))
 (Qc (r_if (Z6 hr (Qa 2) Qf) (Qi Yi) Qv)
 (Qi (QbR rfl (Qam (Qa 0)) (QL 3 sc_check_rows.nd) (Qc (r_if (QaM hr (Z7 Z.z_len (Qa 3)) (Qa 2)) (Qi Yi) Qv)
 (Qi (r_if (JH (ZZ (QiN rfl Z.z_all (Qc1 (Jj (Nb:=["thing", "states", "signs"]) (no:=1) (cap:=[1,2]) (N:=QaI) (sc:=Qd Zh) rfl rfl (by decide +kernel)) rfl (Qam (Qa 3)) (fun cl C s3 H3 ex=>⟨(QL 0 (show List.Nodup (["thing", "states", "signs"]:List Str) by decide +kernel)),QfU,(Qp (QdS Z) (hr.mono (by omega)) (Qe (Qa 0) (Qe (Qa 1) (Qe (Qa 2) Ql))))⟩))))) (Qi Yi) Qv)))))))))),hm,F.kp,F.binds (ps:=["rows"]) (fun _ _ _ _ _ _ us hl=>by obtain⟨_,rfl⟩:=L3.len1 hl; rfl)⟩,Qt _ _ _⟩
theorem QbJ (Z:Zk K mg ca):MkH P w K mg base ca 11 "Machine" 5 2 Zt:=by
 obtain⟨f,fd,F,hm⟩:=Z.u_Machine_init
 exact⟨⟨f,fd,["self", "table"],Q7 F sc_Machine_init rfl rfl (fun cdv A outer s H E hr=>(Qc (Qw 2 sc_Machine_init.nd (Qf2 Z.z_tuple (Qc1 (Jj (Nb:=["row"]) (no:=1) (cap:=[]) (N:=JL) (sc:=Qd QT) rfl rfl (by decide +kernel)) rfl (Qam (Qa 1)) (fun cl C s3 H3 ex=>⟨(QL 0 (show List.Nodup (["row"]:List Str) by decide +kernel)),QfU,(Qf2 Z.z_tuple (Qa 0))⟩))))
 (Qc (Z0 (Qp (QcG Z) (hr.mono (by omega)) (Qe (Qa 2) Ql)))
 (Qi (Zs (Qa 0) (Qa 2) Z.a_table))))),hm.1,hm.2,F.binds (ps:=["self", "table"]) (fun _ _ _ _ _ _ us hl=>by obtain⟨_,_,rfl⟩:=L3.len2 hl; rfl)⟩,Qt _ _ _⟩
theorem Qdi (Z:Zk K mg ca):FnH P w K mg base ca "states_of" 1 1 JT:=by
 obtain⟨f,fd,F,hm⟩:=Z.u_states_of
 exact⟨⟨f,fd,["machine"],Q7 F Qdg rfl rfl (fun cdv A outer s H E hr=>(Qi (QH (Z7 Z.z_len (Zr (Qa 0) Z.a_table))))),hm,F.kp,F.binds (ps:=["machine"]) (fun _ _ _ _ _ _ us hl=>by obtain⟨_,rfl⟩:=L3.len1 hl; rfl)⟩,Qt _ _ _⟩
theorem QdT (Z:Zk K mg ca):FnH P w K mg base ca "signs_of" 1 1 Qaq:=by
 obtain⟨f,fd,F,hm⟩:=Z.u_signs_of
 exact⟨⟨f,fd,["machine"],Q7 F QdO rfl rfl (fun cdv A outer s H E hr=>(Qi (QH (Z7 Z.z_len (Qj (Zr (Qa 0) Z.a_table) Qf))))),hm,F.kp,F.binds (ps:=["machine"]) (fun _ _ _ _ _ _ us hl=>by obtain⟨_,rfl⟩:=L3.len1 hl; rfl)⟩,Qt _ _ _⟩
theorem QbY (Z:Zk K mg ca):FnH P w K mg base ca "add_stretch" 1 3 YZ:=by
 obtain⟨f,fd,F,hm⟩:=Z.u_add_stretch
 exact⟨⟨f,fd,["side", "sign", "count"],Q7 F QbU rfl rfl (fun cdv A outer s H E hr=>(Qc (r_if (QiF (Qa 2) Qf) (Qi Qj9) Qv)
 (Qi (r_if (r_w (Qbg (QbT (Z7 Z.z_len (Qa 0)) Qf) (JR (Z6 hr (Qj (Qj (Qa 0) (Qdv Qf)) Qf) (Qa 1))))) (Qi (Qci (Qa 0) (Qdv Qf) (Yh (Qe (Qa 1) (Qe (Z5 (Qj (Qj (Qa 0) (Qdv Qf)) Qf) (Qa 2)) Ql))))) (Qi (Z0 (QaY (Qa 0) (Yh (Qe (Qa 1) (Qe (Qa 2) Ql)))))))))),hm,F.kp,F.binds (ps:=["side", "sign", "count"]) (fun _ _ _ _ _ _ us hl=>by obtain⟨_,_,_,rfl⟩:=L3.len3 hl; rfl)⟩,Qt _ _ _⟩
theorem QcH (Z:Zk K mg ca):FnH P w K mg base ca "is_stretch" 3 1 Z1:=by
 obtain⟨f,fd,F,hm⟩:=Z.u_is_stretch
 exact⟨⟨f,fd,["thing"],Q7 F QcE rfl rfl (fun cdv A outer s H E hr=>(Qc (r_if (r_w (QaK (JH (ZZ (Yk .tuple Z.z_isinstance Z.z_tuple Jx (Qa 0)))) (Jf (QaM hr (Z7 Z.z_len (Qa 0)) Qf)))) (Qi (QH r_bl)) Qv)
 (Qi (QH (Qbh (Qp (ZV Z) (hr.mono (by omega)) (Qe (Qj (Qa 0) Qf) Ql)) (Qbh (Qp (ZV Z) (hr.mono (by omega)) (Qe (Qj (Qa 0) Qf) Ql)) (QcY (r_gt (Qj (Qa 0) Qf) Qf)))))))),hm,F.kp,F.binds (ps:=["thing"]) (fun _ _ _ _ _ _ us hl=>by obtain⟨_,rfl⟩:=L3.len1 hl; rfl)⟩,Qt _ _ _⟩
theorem Qak (Z:Zk K mg ca):FnH P w K mg base ca "check_side" 4 1 Yv:=by
 obtain⟨f,fd,F,hm⟩:=Z.u_check_side
 exact⟨⟨f,fd,["side"],Q7 F sc_check_side rfl rfl (fun cdv A outer s H E hr=>(Qc (r_if (r_w (QaK (JH (ZZ (QiW Z.z_isinstance Z.z_list Z.z_tuple (Qa 0)))) (Jf (JH (ZZ (QiN rfl Z.z_all (Qc1 (Jj (Nb:=["thing"]) (no:=1) (cap:=[]) (N:=QaJ) (sc:=Qd Zi) rfl rfl (by decide +kernel)) rfl (Qam (Qa 0)) (fun cl C s3 H3 ex=>⟨(QL 0 (show List.Nodup (["thing"]:List Str) by decide +kernel)),QfU,(Qp (QcH Z) (hr.mono (by omega)) (Qe (Qa 0) Ql))⟩)))))))) (Qi Yi) Qv)
 (Qc (QbR rfl (Qkn Z.z_zip (Qa 0) (Qap (Qa 0) (Qb5 Qf) Jw)) (QaE rfl (Q1 (QL 1 sc_check_side.nd) (Q1 (QL 2 sc_check_side.nd) QaD))) (Qi (r_if (Z6 hr (Qj (Qa 1) Qf) (Qj (Qa 2) Qf)) (Qi Yi) Qv)))
 (Qi (r_if (r_w (Qbg (QbT (Z7 Z.z_len (Qa 0)) Qf) (JR (Z6 hr (Qj (Qj (Qa 0) (Qdv Qf)) Qf) (Qgd Z.g_BLANK))))) (Qi Yi) Qv))))),hm,F.kp,F.binds (ps:=["side"]) (fun _ _ _ _ _ _ us hl=>by obtain⟨_,rfl⟩:=L3.len1 hl; rfl)⟩,Qt _ _ _⟩
theorem Qal (Z:Zk K mg ca):FnH P w K mg base ca "check_stretches" 5 1 ZQ:=by
 obtain⟨f,fd,F,hm⟩:=Z.u_check_stretches
 exact⟨⟨f,fd,["stretches"],Q7 F Qaj rfl rfl (fun cdv A outer s H E hr=>(Qc (r_if (r_w (QaK (JH (ZZ (Yk .tuple Z.z_isinstance Z.z_tuple Jx (Qa 0)))) (Jf (QaM hr (Z7 Z.z_len (Qa 0)) Qf)))) (Qi Yi) Qv)
 (Qc (r_if (JH (ZZ (Qp (ZV Z) (hr.mono (by omega)) (Qe (Qj (Qa 0) Qf) Ql)))) (Qi Yi) Qv)
 (Qc (Z0 (Qp (Qak Z) (hr.mono (by omega)) (Qe (Qj (Qa 0) Qf) Ql)))
 (Qi (Z0 (Qp (Qak Z) (hr.mono (by omega)) (Qe (Qj (Qa 0) Qf) Ql)))))))),hm,F.kp,F.binds (ps:=["stretches"]) (fun _ _ _ _ _ _ us hl=>by obtain⟨_,rfl⟩:=L3.len1 hl; rfl)⟩,Qt _ _ _⟩
theorem QgV (Z:Zk K mg ca):FnH P w K mg base ca "put" 2 3 QeZ:=by
 obtain⟨f,fd,F,hm⟩:=Z.u_put
 exact⟨⟨f,fd,["side", "sign", "count"],Q7 F QkO rfl rfl (fun cdv A outer s H E hr=>(Qi (r_if (r_w (QaK (QbT (Z7 Z.z_len (Qa 0)) Qf) (Jf (QaM hr (Qa 1) (Qgd Z.g_BLANK))))) (Qi (Z0 (Qp (QbY Z) (hr.mono (by omega)) (Qe (Qa 0) (Qe (Qa 1) (Qe (Qa 2) Ql)))))) Qv))),hm,F.kp,F.binds (ps:=["side", "sign", "count"]) (fun _ _ _ _ _ _ us hl=>by obtain⟨_,_,_,rfl⟩:=L3.len3 hl; rfl)⟩,Qt _ _ _⟩
theorem QdU (Z:Zk K mg ca):FnH P w K mg base ca "drop" 3 2 Qbm:=by
 obtain⟨f,fd,F,hm⟩:=Z.u_drop
 exact⟨⟨f,fd,["side", "count"],Q7 F sc_drop rfl rfl (fun cdv A outer s H E hr=>(Qi (r_if (QbT (Z7 Z.z_len (Qa 0)) Qf) (Qc (Qw 2 sc_drop.nd (Qkj (Qa 0)))
 (Qi (Z0 (Qp (QgV Z) (hr.mono (by omega)) (Qe (Qa 0) (Qe (Qj (Qa 2) Qf) (Qe (QbS (Qj (Qa 2) Qf) (Qa 1)) Ql))))))) Qv))),hm,F.kp,F.binds (ps:=["side", "count"]) (fun _ _ _ _ _ _ us hl=>by obtain⟨_,_,rfl⟩:=L3.len2 hl; rfl)⟩,Qt _ _ _⟩
theorem Ys (Z:Zk K mg ca):FnH P w K mg base ca "nearest_sign" 1 1 QS:=by
 obtain⟨f,fd,F,hm⟩:=Z.u_nearest_sign
 exact⟨⟨f,fd,["side"],Q7 F QbE rfl rfl (fun cdv A outer s H E hr=>(Qi (QH (QaL (QbT (Z7 Z.z_len (Qa 0)) Qf) (Qj (Qj (Qa 0) (Qdv Qf)) Qf) (Qgd Z.g_BLANK))))),hm,F.kp,F.binds (ps:=["side"]) (fun _ _ _ _ _ _ us hl=>by obtain⟨_,rfl⟩:=L3.len1 hl; rfl)⟩,Qt _ _ _⟩
theorem QhK (Z:Zk K mg ca):FnH P w K mg base ca "alike" 2 3 Qbn:=by
 obtain⟨f,fd,F,hm⟩:=Z.u_alike
 exact⟨⟨f,fd,["side", "sign", "most"],Q7 F QhF rfl rfl (fun cdv A outer s H E hr=>(Qc (r_if (QaM hr (Qp (Ys Z) (hr.mono (by omega)) (Qe (Qa 0) Ql)) (Qa 1)) (Qi (QH Qf)) Qv)
 (Qi (QH (QaL (QbT (Z7 Z.z_len (Qa 0)) Qf) (Qh2 rfl Z.z_min (Qj (Qj (Qa 0) (Qdv Qf)) Qf) (Qa 2)) (Qa 2)))))),hm,F.kp,F.binds (ps:=["side", "sign", "most"]) (fun _ _ _ _ _ _ us hl=>by obtain⟨_,_,_,rfl⟩:=L3.len3 hl; rfl)⟩,Qt _ _ _⟩
theorem QaR (Z:Zk K mg ca):MkH P w K mg base ca 13 "FastWalk" 4 3 ZJ:=by
 obtain⟨f,fd,F,hm⟩:=Z.u_FastWalk_init
 exact⟨⟨f,fd,["self", "machine", "stretches"],Q7 F QaP rfl rfl (fun cdv A outer s H E hr=>(Qc (Zs (Qa 0) (Zr (Qa 1) Z.a_table) Z.a_table)
 (Qc (Zs (Qa 0) (Qj (Qa 2) Qf) Z.a_state)
 (Qc (Zs (Qa 0) (J8 rfl Z.z_list Z.z_reversed (Qj (Qa 2) Qf)) Z.a_left)
 (Qc (Zs (Qa 0) (J8 rfl Z.z_list Z.z_reversed (Qj (Qa 2) Qf)) Z.a_right)
 (Qc (Zs (Qa 0) (Qp (Ys Z) (hr.mono (by omega)) (Qe (Zr (Qa 0) Z.a_right) Ql)) Z.a_own)
 (Qc (Z0 (Qp (QdU Z) (hr.mono (by omega)) (Qe (Zr (Qa 0) Z.a_right) (Qe Qf Ql))))
 (Qi (Zs (Qa 0) Qf Z.a_moved))))))))),hm.1,hm.2,F.binds (ps:=["self", "machine", "stretches"]) (fun _ _ _ _ _ _ us hl=>by obtain⟨_,_,_,rfl⟩:=L3.len3 hl; rfl)⟩,Qt _ _ _⟩
theorem YW (Z:Zk K mg ca):MtH P w K mg base ca 13 "entry" 1 1 Q3:=by
 obtain⟨f,fd,F,hm⟩:=Z.u_FastWalk_entry
 exact⟨⟨f,fd,["self"],Q7 F Qax rfl rfl (fun cdv A outer s H E hr=>(Qi (QH (Qj (Qj (Zr (Qa 0) Z.a_table) (Zr (Qa 0) Z.a_state)) (Zr (Qa 0) Z.a_own))))),hm.1,hm.2,F.binds (ps:=["self"]) (fun _ _ _ _ _ _ us hl=>by obtain⟨_,rfl⟩:=L3.len1 hl; rfl)⟩,Qt _ _ _⟩
theorem QaS (Z:Zk K mg ca):MtH P w K mg base ca 13 "leap" 4 2 Yn:=by
 obtain⟨f,fd,F,hm⟩:=Z.u_FastWalk_leap
 exact⟨⟨f,fd,["self", "asked"],Q7 F sc_FastWalk_leap rfl rfl (fun cdv A outer s H E hr=>(Qc (Qw 2 sc_FastWalk_leap.nd (Qds (YW Z) (hr.mono (by omega)) (Qa 0)))
 (Qc (Qw 3 sc_FastWalk_leap.nd (r_eq hr (Qj (Qa 2) Qf) (Qgc Z.g_RIGHT)))
 (Qc (Qw 4 sc_FastWalk_leap.nd (QaL (ZZ (Qa 3)) (Zr (Qa 0) Z.a_right) (Zr (Qa 0) Z.a_left)))
 (Qc (Qw 5 sc_FastWalk_leap.nd (QaL (ZZ (Qa 3)) (Zr (Qa 0) Z.a_left) (Zr (Qa 0) Z.a_right)))
 (Qc (Qw 6 sc_FastWalk_leap.nd (QaL (Z6 hr (Qj (Qa 2) Qf) (Zr (Qa 0) Z.a_state)) (Z5 Qf (Qp (QhK Z) (hr.mono (by omega)) (Qe (Qa 4) (Qe (Zr (Qa 0) Z.a_own) (Qe (QbS (Qa 1) Qf) Ql))))) Qf))
 (Qc (Z0 (Qp (QgV Z) (hr.mono (by omega)) (Qe (Qa 5) (Qe (Qj (Qa 2) Qf) (Qe (Qa 6) Ql)))))
 (Qc (Z0 (Qp (QdU Z) (hr.mono (by omega)) (Qe (Qa 4) (Qe (QbS (Qa 6) Qf) Ql))))
 (Qc (Zs (Qa 0) (Qp (Ys Z) (hr.mono (by omega)) (Qe (Qa 4) Ql)) Z.a_own)
 (Qc (Z0 (Qp (QdU Z) (hr.mono (by omega)) (Qe (Qa 4) (Qe Qf Ql))))
 (Qc (Zs (Qa 0) (Qj (Qa 2) Qf) Z.a_state)
 (Qc (Zs (Qa 0) (QaL (ZZ (Qa 3)) (Z5 (Zr (Qa 0) Z.a_moved) (Qa 6)) (QbS (Zr (Qa 0) Z.a_moved) (Qa 6))) Z.a_moved)
 (Qi (QH (Qa 6))))))))))))))),hm.1,hm.2,F.binds (ps:=["self", "asked"]) (fun _ _ _ _ _ _ us hl=>by obtain⟨_,_,rfl⟩:=L3.len2 hl; rfl)⟩,Qt _ _ _⟩
theorem QbK (Z:Zk K mg ca):MtH P w K mg base ca 13 "row" 3 1 ZW:=by
 obtain⟨f,fd,F,hm⟩:=Z.u_FastWalk_row
 exact⟨⟨f,fd,["self"],Q7 F sc_FastWalk_row rfl rfl (fun cdv A outer s H E hr=>(Qc (Qw 1 sc_FastWalk_row.nd (Qki Z.z_list (Zr (Qa 0) Z.a_right)))
 (Qc (Z0 (Qp (QgV Z) (hr.mono (by omega)) (Qe (Qa 1) (Qe (Zr (Qa 0) Z.a_own) (Qe Qf Ql)))))
 (Qi (QH (Yh (Qe (Zr (Qa 0) Z.a_state) (Qe (J8 rfl Z.z_list Z.z_reversed (Zr (Qa 0) Z.a_left)) (Qe (J8 rfl Z.z_list Z.z_reversed (Qa 1)) Ql))))))))),hm.1,hm.2,F.binds (ps:=["self"]) (fun _ _ _ _ _ _ us hl=>by obtain⟨_,rfl⟩:=L3.len1 hl; rfl)⟩,Qt _ _ _⟩
theorem J0 (Z:Zk K mg ca):FnH P w K mg base ca "check_of_machine" 6 2 ZK:=by
 obtain⟨f,fd,F,hm⟩:=Z.u_check_of_machine
 exact⟨⟨f,fd,["machine", "stretches"],Q7 F sc_check_of_machine rfl rfl (fun cdv A outer s H E hr=>(Qc (Z0 (Qp (Qal Z) (hr.mono (by omega)) (Qe (Qa 1) Ql)))
 (Qc (r_if (Qkf (Qj (Qa 1) Qf) (Qp (Qdi Z) (hr.mono (by omega)) (Qe (Qa 0) Ql))) (Qi Yi) Qv)
 (Qc (Qw 2 sc_check_of_machine.nd (Qp (QdT Z) (hr.mono (by omega)) (Qe (Qa 0) Ql)))
 (Qi (QbR rfl (Qam (Qap (Qa 1) (Qb5 Qf) Jw)) (QL 3 sc_check_of_machine.nd) (Qi (r_if (ZZ (Qln rfl Z.z_any (Qc1 (Jj (Nb:=["sign", "count", "signs"]) (no:=2) (cap:=[2]) (N:=YA) (sc:=Qd QA) rfl rfl (by decide +kernel)) rfl (Qam (Qa 3)) (fun cl C s3 H3 ex=>⟨(QaE rfl (Q1 (QL 0 (show List.Nodup (["sign", "count", "signs"]:List Str) by decide +kernel)) (Q1 (QL 1 (show List.Nodup (["sign", "count", "signs"]:List Str) by decide +kernel)) QaD))),QfU,(r_ge (Qa 0) (Qa 2))⟩)))) (Qi Yi) Qv)))))))),hm,F.kp,F.binds (ps:=["machine", "stretches"]) (fun _ _ _ _ _ _ us hl=>by obtain⟨_,_,rfl⟩:=L3.len2 hl; rfl)⟩,Qt _ _ _⟩
theorem Qdj (Z:Zk K mg ca):FnH P w K mg base ca "fast_from" 7 4 Y0:=by
 obtain⟨f,fd,F,hm⟩:=Z.u_fast_from
 exact⟨⟨f,fd,["machine", "stretches", "steps", "most"],Q7 F sc_fast_from rfl rfl (fun cdv A outer s H E hr=>(Qc (Z0 (Qp (J0 Z) (hr.mono (by omega)) (Qe (Qa 0) (Qe (Qa 1) Ql))))
 (Qc (Qw 4 sc_fast_from.nd (QhU (QaR Z) (hr.mono (by omega)) (Qe (Qa 0) (Qe (Qa 1) Ql))))
 (Qc (Qw 5 sc_fast_from.nd Qf)
 (Qc (Qw 6 sc_fast_from.nd Qf)
 (Qc (QfO (r_w (Qbg (QiF (Qa 5) (Qa 2)) (JR (Qec (Qds (YW Z) (hr.mono (by omega)) (Qa 4)) JF)))) (Qc (r_if (Qkf (Qa 6) (Qa 3)) (Qi (QiR Z.e_TooLong hr.hd (Qe QcX Ql))) Qv)
 (Qc (Qw 5 sc_fast_from.nd (Z5 (Qa 5) (Qkb (QaS Z) (hr.mono (by omega)) (Qa 4) (Qe (QbS (Qa 2) (Qa 5)) Ql))))
 (Qi (Qw 6 sc_fast_from.nd (Z5 (Qa 6) Qf))))))
 (Qi (QH (Yh (Qe (Qds (QbK Z) (hr.mono (by omega)) (Qa 4)) (Qe (Zr (Qa 4) Z.a_moved) (Qe (Qa 5) (Qe (Qa 6) Ql))))))))))))),hm,F.kp,F.binds (ps:=["machine", "stretches", "steps", "most"]) (fun _ _ _ _ _ _ us hl=>by obtain⟨_,_,_,_,rfl⟩:=L3.len4 hl; rfl)⟩,Qt _ _ _⟩
theorem Z2 (Z:Zk K mg ca):FnH P w K mg base ca "_law_next" 1 2 Zj:=by
 obtain⟨f,fd,F,hm⟩:=Z.u_L_next
 exact⟨⟨f,fd,["_law_script", "_law_at"],Q7 F sc_L_next rfl rfl (fun cdv A outer s H E hr=>(Qc (Qci (Qa 1) Qf (Z5 (Qj (Qa 1) Qf) Qf))
 (Qc (Qw 2 sc_L_next.nd (QaL (QbT (Z7 Z.z_len (Qa 0)) Qf) (Qj (Qa 0) (ZH (Qj (Qa 1) Qf) (Z7 Z.z_len (Qa 0)))) Qf))
 (Qc (Qw 3 sc_L_next.nd (ZH (Qck (Z5 (Z5 (ZH (Qa 2) Qf) (Qck (Qck (Qj (Qa 1) Qf) (Qj (Qa 1) Qf)) Qf)) Qf) Qf) Qf))
 (Qi (QH (ZH (Qck (Qa 3) (Qa 3)) Qf))))))),hm,F.kp,F.binds (ps:=["_law_script", "_law_at"]) (fun _ _ _ _ _ _ us hl=>by obtain⟨_,_,rfl⟩:=L3.len2 hl; rfl)⟩,Qt _ _ _⟩
theorem QbL (Z:Zk K mg ca):∀ n:Nat,FnH P w K mg base ca "_law_same" (1+n) 2 (ZL n)
 | 0=>by
  obtain⟨f,fd,F,hm⟩:=Z.u_L_same
  exact⟨⟨f,fd,["_law_found", "_law_due"],QiT rfl,hm,F.kp,F.binds (ps:=["_law_found", "_law_due"]) (fun _ _ _ _ _ _ us hl=>by obtain⟨_,_,rfl⟩:=L3.len2 hl; rfl)⟩,fun _ _ _=>rfl⟩
 | n+1=>by
  have ih:=QbL Z n
  obtain⟨f,fd,F,hm⟩:=Z.u_L_same
  exact⟨⟨f,fd,["_law_found", "_law_due"],Q7 F QgQ rfl rfl (fun cdv A outer s H E hr=>(Qc (r_if (r_w (QaK (ZZ (Yk .list Z.z_isinstance Z.z_list Qdx (Qa 1))) (Jf (ZZ (Yk .tuple Z.z_isinstance Z.z_tuple Jx (Qa 1)))))) (Qc (r_if (r_w (QaK (QaM hr (Yk .list Z.z_isinstance Z.z_list Qdx (Qa 0)) (Yk .list Z.z_isinstance Z.z_list Qdx (Qa 1))) (Jf (QaM hr (Yk .tuple Z.z_isinstance Z.z_tuple Jx (Qa 0)) (Yk .tuple Z.z_isinstance Z.z_tuple Jx (Qa 1)))))) (Qi (QH r_bl)) Qv)
 (Qi (QH (Qbh (r_eq hr (Z7 Z.z_len (Qa 0)) (Z7 Z.z_len (Qa 1))) (QcY (QiN rfl Z.z_all (Qc1 (Jj (Nb:=["_law_a", "_law_b"]) (no:=2) (cap:=[]) (N:=QeE) (sc:=Qd Y6) rfl rfl (by decide +kernel)) rfl (Qkn Z.z_zip (Qa 0) (Qa 1)) (fun cl C s3 H3 ex=>⟨(QaE rfl (Q1 (QL 0 (show List.Nodup (["_law_a", "_law_b"]:List Str) by decide +kernel)) (Q1 (QL 1 (show List.Nodup (["_law_a", "_law_b"]:List Str) by decide +kernel)) QaD))),QfU,(Qp ih hr (Qe (Qa 0) (Qe (Qa 1) Ql)))⟩)))))))) Qv)
 (Qc (r_if (Qc2 (Qa 1) JF) (Qi (QH (r_is (Qa 0) JF))) Qv)
 (Qc (r_if (ZZ (Yk .str Z.z_isinstance Z.z_str QhZ (Qa 1))) (Qi (QH (Qbh (Yk .str Z.z_isinstance Z.z_str QhZ (Qa 0)) (QcY (r_eq hr (Qa 0) (Qa 1)))))) Qv)
 (Qi (QH (Qbh (Yk .int Z.z_isinstance Z.z_int QhY (Qa 0)) (Qbh (Qj7 (Yk .bool Z.z_isinstance Z.z_bool Qge (Qa 0))) (QcY (r_eq hr (Qa 0) (Qa 1))))))))))),hm,F.kp,F.binds (ps:=["_law_found", "_law_due"]) (fun _ _ _ _ _ _ us hl=>by obtain⟨_,_,rfl⟩:=L3.len2 hl; rfl)⟩,Qt _ _ _⟩
theorem Qff (Z:Zk K mg ca):FnH P w K mg base ca "_law_table" 2 4 Qbp:=by
 obtain⟨f,fd,F,hm⟩:=Z.u_L_table
 exact⟨⟨f,fd,["_law_script", "_law_at", "_law_states", "_law_signs"],Q7 F sc_L_table rfl rfl (fun cdv A outer s H E hr=>(Qc (Qw 4 sc_L_table.nd (JS Ql))
 (Qc (QbR rfl (YX Z.z_range (Qa 2)) (QL 5 sc_L_table.nd) (Qc (Qw 6 sc_L_table.nd (JS Ql))
 (Qc (QbR rfl (YX Z.z_range (Qa 3)) (QL 7 sc_L_table.nd) (Qc (Qw 8 sc_L_table.nd (Qp (Z2 Z) (hr.mono (by omega)) (Qe (Qa 0) (Qe (Qa 1) Ql))))
 (Qc (Qw 9 sc_L_table.nd (Yh (Qe (ZH (Yj (Qa 8) Qf) (Qa 3)) (Qe (Qj QcX (ZH (Yj (Qa 8) Qf) Qf)) (Qe (ZH (Yj (Qa 8) Qf) (Qa 2)) Ql)))))
 (Qc (r_if (Z6 hr (ZH (Qa 8) Qf) Qf) (Qi (Qw 9 sc_L_table.nd JF)) Qv)
 (Qi (Z0 (QaY (Qa 6) (Qa 9))))))))
 (Qi (Z0 (QaY (Qa 4) (Qa 6)))))))
 (Qi (QH (Qa 4)))))),hm,F.kp,F.binds (ps:=["_law_script", "_law_at", "_law_states", "_law_signs"]) (fun _ _ _ _ _ _ us hl=>by obtain⟨_,_,_,_,rfl⟩:=L3.len4 hl; rfl)⟩,Qt _ _ _⟩
theorem QbM (Z:Zk K mg ca):FnH P w K mg base ca "_law_machine_by" 3 2 YF:=by
 obtain⟨f,fd,F,hm⟩:=Z.u_L_machine_by
 exact⟨⟨f,fd,["_law_script", "_law_at"],Q7 F sc_L_machine_by rfl rfl (fun cdv A outer s H E hr=>(Qc (Qw 2 sc_L_machine_by.nd (Qp (Z2 Z) (hr.mono (by omega)) (Qe (Qa 0) (Qe (Qa 1) Ql))))
 (Qc (Qw 3 sc_L_machine_by.nd (Qj (JS (Qe Qf (Qe Qf (Qe Qf (Qe Qf (Qe Qf (Qe Qf Ql))))))) (ZH (Qa 2) Qf)))
 (Qc (Qw 4 sc_L_machine_by.nd (Qj (JS (Qe Qf (Qe Qf (Qe Qf (Qe Qf (Qe Qf (Qe Qf Ql))))))) (ZH (Yj (Qa 2) Qf) Qf)))
 (Qc (r_if (Z6 hr (ZH (Yj (Qa 2) Qf) Qf) Qf) (Qi (QfN (Yh (Qe Qf (Qe Qf Ql))) (QaE rfl (Q1 (QL 3 sc_L_machine_by.nd) (Q1 (QL 4 sc_L_machine_by.nd) QaD))))) Qv)
 (Qc (Qw 5 sc_L_machine_by.nd (Qp (Qff Z) (hr.mono (by omega)) (Qe (Qa 0) (Qe (Qa 1) (Qe (Qa 3) (Qe (Qa 4) Ql))))))
 (Qc (QbR rfl (YX Z.z_range (Qa 3)) (QL 6 sc_L_machine_by.nd) (Qi (QbR rfl (YX Z.z_range (Qa 4)) (QL 7 sc_L_machine_by.nd) (Qc (Qw 2 sc_L_machine_by.nd (Qp (Z2 Z) (hr.mono (by omega)) (Qe (Qa 0) (Qe (Qa 1) Ql))))
 (Qc (r_if (r_w (Qbg (Z6 hr (ZH (Qa 2) Qf) Qf) (JR (Qec (Qj (Qj (Qa 5) (Qa 6)) (Qa 7)) JF)))) (Qi (Qci (Qj (Qa 5) (Qa 6)) (Qa 7) (Yh (Qe (Qj (Qj (Qj (Qa 5) (Qa 6)) (Qa 7)) Qf) (Qe (Qj (Qj (Qj (Qa 5) (Qa 6)) (Qa 7)) Qf) (Qe (Qa 6) Ql)))))) Qv)
 (Qi (r_if (r_w (Qbg (QbT (ZH (Yj (Qa 2) Qf) Qf) Qf) (JR (Qc2 (Qj (Qj (Qa 5) (Qa 6)) (Qa 7)) JF)))) (Qi (Qci (Qj (Qa 5) (Qa 6)) (Qa 7) (Yh (Qe (ZH (Yj (Qa 2) Qf) (Qa 4)) (Qe (Qj QcX (ZH (Yj (Qa 2) Qf) Qf)) (Qe (ZH (Yj (Qa 2) Qf) (Qa 3)) Ql)))))) Qv)))))))
 (Qi (QH (Qa 5)))))))))),hm,F.kp,F.binds (ps:=["_law_script", "_law_at"]) (fun _ _ _ _ _ _ us hl=>by obtain⟨_,_,rfl⟩:=L3.len2 hl; rfl)⟩,Qt _ _ _⟩
theorem QcI (Z:Zk K mg ca):FnH P w K mg base ca "_law_put" 1 3 Jm:=by
 obtain⟨f,fd,F,hm⟩:=Z.u_L_put
 exact⟨⟨f,fd,["_law_row", "_law_sign", "_law_count"],Q7 F QhH rfl rfl (fun cdv A outer s H E hr=>(Qc (r_if (r_w (QaK (Z6 hr (Qa 2) Qf) (Jf (r_w (Qbg (Z6 hr (Qa 1) Qf) (JR (Z6 hr (Qa 0) (JS Ql)))))))) (Qi (QH (Qa 0))) Qv)
 (Qc (r_if (r_w (Qbg (QaM hr (Qa 0) (JS Ql)) (JR (Z6 hr (Qj (Qj (Qa 0) Qf) Qf) (Qa 1))))) (Qi (QH (Z5 (JS (Qe (Yh (Qe (Qa 1) (Qe (Z5 (Qj (Qj (Qa 0) Qf) Qf) (Qa 2)) Ql))) Ql)) (Qap (Qa 0) (Qb5 Qf) Jw)))) Qv)
 (Qi (QH (Z5 (JS (Qe (Yh (Qe (Qa 1) (Qe (Qa 2) Ql))) Ql)) (Qa 0))))))),hm,F.kp,F.binds (ps:=["_law_row", "_law_sign", "_law_count"]) (fun _ _ _ _ _ _ us hl=>by obtain⟨_,_,_,rfl⟩:=L3.len3 hl; rfl)⟩,Qt _ _ _⟩
theorem Qa4 (Z:Zk K mg ca):FnH P w K mg base ca "_law_cut" 1 2 YG:=by
 obtain⟨f,fd,F,hm⟩:=Z.u_L_cut
 exact⟨⟨f,fd,["_law_row", "_law_count"],Q7 F sc_L_cut rfl rfl (fun cdv A outer s H E hr=>(Qc (r_if (r_w (QaK (Z6 hr (Qa 0) (JS Ql)) (Jf (Z6 hr (Qa 1) Qf)))) (Qi (QH (Qa 0))) Qv)
 (Qc (QfN (Qj (Qa 0) Qf) (QaE rfl (Q1 (QL 2 sc_L_cut.nd) (Q1 (QL 3 sc_L_cut.nd) QaD))))
 (Qi (QH (Z5 (Qck (JS (Qe (Yh (Qe (Qa 2) (Qe (QbS (Qa 3) (Qa 1)) Ql))) Ql)) (Qdw Z.z_int (r_gt (Qa 3) (Qa 1)))) (Qap (Qa 0) (Qb5 Qf) Jw))))))),hm,F.kp,F.binds (ps:=["_law_row", "_law_count"]) (fun _ _ _ _ _ _ us hl=>by obtain⟨_,_,rfl⟩:=L3.len2 hl; rfl)⟩,Qt _ _ _⟩
theorem QbN (Z:Zk K mg ca):FnH P w K mg base ca "_law_run_of" 1 3 ZC:=by
 obtain⟨f,fd,F,hm⟩:=Z.u_L_run_of
 exact⟨⟨f,fd,["_law_row", "_law_sign", "_law_wanted"],Q7 F QdQ rfl rfl (fun cdv A outer s H E hr=>(Qc (r_if (Z6 hr (Qa 0) (JS Ql)) (Qi (QH (Qck (Qa 2) (Qdw Z.z_int (r_eq hr (Qa 1) Qf))))) Qv)
 (Qi (QH (Qck (Qh2 rfl Z.z_min (Qa 2) (Qj (Qj (Qa 0) Qf) Qf)) (Qdw Z.z_int (r_eq hr (Qj (Qj (Qa 0) Qf) Qf) (Qa 1)))))))),hm,F.kp,F.binds (ps:=["_law_row", "_law_sign", "_law_wanted"]) (fun _ _ _ _ _ _ us hl=>by obtain⟨_,_,_,rfl⟩:=L3.len3 hl; rfl)⟩,Qt _ _ _⟩
theorem QgW (Z:Zk K mg ca):FnH P w K mg base ca "_law_leap" 2 3 Qa0:=by
 obtain⟨f,fd,F,hm⟩:=Z.u_L_leap
 exact⟨⟨f,fd,["_law_table_here", "_law_stretches", "_law_wanted"],Q7 F sc_L_leap rfl rfl (fun cdv A outer s H E hr=>(Qc (QfN (Qa 1) (QaE rfl (Q1 (QL 3 sc_L_leap.nd) (Q1 (QL 4 sc_L_leap.nd) (Q1 (QL 5 sc_L_leap.nd) QaD)))))
 (Qc (Qw 6 sc_L_leap.nd (QaL (QaM hr (Qa 5) (JS Ql)) (Qj (Qj (Qa 5) Qf) Qf) Qf))
 (Qc (Qw 7 sc_L_leap.nd (Qj (Qj (Qa 0) (Qa 3)) (Qa 6)))
 (Qc (r_if (Qc2 (Qa 7) JF) (Qi (QH JF)) Qv)
 (Qc (QfN (Qa 7) (QaE rfl (Q1 (QL 8 sc_L_leap.nd) (Q1 (QL 9 sc_L_leap.nd) (Q1 (QL 10 sc_L_leap.nd) QaD)))))
 (Qc (r_if (Z6 hr (Qa 9) QcX) (Qc (Qw 11 sc_L_leap.nd (QaL (Z6 hr (Qa 10) (Qa 3)) (Qp (QbN Z) (hr.mono (by omega)) (Qe (Qa 5) (Qe (Qa 6) (Qe (Qa 2) Ql)))) Qf))
 (Qc (Qw 4 sc_L_leap.nd (Qp (QcI Z) (hr.mono (by omega)) (Qe (Qa 4) (Qe (Qa 8) (Qe (Qa 11) Ql)))))
 (Qi (QH (Yh (Qe (Yh (Qe (Qa 10) (Qe (Qa 4) (Qe (Qp (Qa4 Z) (hr.mono (by omega)) (Qe (Qa 5) (Qe (Qa 11) Ql))) Ql)))) (Qe (Qa 11) (Qe (Qa 11) Ql)))))))) Qv)
 (Qc (Qw 11 sc_L_leap.nd (QaL (Z6 hr (Qa 10) (Qa 3)) (Z5 Qf (Qp (QbN Z) (hr.mono (by omega)) (Qe (Qa 4) (Qe (Qa 6) (Qe (QbS (Qa 2) Qf) Ql))))) Qf))
 (Qc (Qw 5 sc_L_leap.nd (Qp (QcI Z) (hr.mono (by omega)) (Qe (Qp (Qa4 Z) (hr.mono (by omega)) (Qe (Qa 5) (Qe Qf Ql))) (Qe (Qa 8) (Qe (Qa 11) Ql)))))
 (Qc (Qw 4 sc_L_leap.nd (Qp (Qa4 Z) (hr.mono (by omega)) (Qe (Qa 4) (Qe (QbS (Qa 11) Qf) Ql))))
 (Qc (Qw 12 sc_L_leap.nd (QaL (QaM hr (Qa 4) (JS Ql)) (Qj (Qj (Qa 4) Qf) Qf) Qf))
 (Qi (QH (Yh (Qe (Yh (Qe (Qa 10) (Qe (Qp (Qa4 Z) (hr.mono (by omega)) (Qe (Qa 4) (Qe Qf Ql))) (Qe (Qp (QcI Z) (hr.mono (by omega)) (Qe (Qa 5) (Qe (Qa 12) (Qe Qf Ql)))) Ql)))) (Qe (Qa 11) (Qe (Qdv (Qa 11)) Ql))))))))))))))))),hm,F.kp,F.binds (ps:=["_law_table_here", "_law_stretches", "_law_wanted"]) (fun _ _ _ _ _ _ us hl=>by obtain⟨_,_,_,rfl⟩:=L3.len3 hl; rfl)⟩,Qt _ _ _⟩
theorem Qfg (Z:Zk K mg ca):FnH P w K mg base ca "_law_leaps" 3 4 Jn:=by
 obtain⟨f,fd,F,hm⟩:=Z.u_L_leaps
 exact⟨⟨f,fd,["_law_table_here", "_law_stretches", "_law_steps", "_law_most"],Q7 F sc_L_leaps rfl rfl (fun cdv A outer s H E hr=>(Qc (QfN (Yh (Qe Qf (Qe Qf (Qe Qf Ql)))) (QaE rfl (Q1 (QL 4 sc_L_leaps.nd) (Q1 (QL 5 sc_L_leaps.nd) (Q1 (QL 6 sc_L_leaps.nd) QaD)))))
 (Qc (QfO (QiF (Qa 4) (Qa 2)) (Qc (Qw 7 sc_L_leaps.nd (Qp (QgW Z) (hr.mono (by omega)) (Qe (Qa 0) (Qe (Qa 1) (Qe (QbS (Qa 2) (Qa 4)) Ql)))))
 (Qc (r_if (Qc2 (Qa 7) JF) (Qi (QH (Yh (Qe (Qa 1) (Qe (Qa 5) (Qe (Qa 4) (Qe (Qa 6) Ql))))))) Qv)
 (Qc (r_if (Z6 hr (Qa 6) (Qa 3)) (Qi (QH JF)) Qv)
 (Qc (Qw 1 sc_L_leaps.nd (Qj (Qa 7) Qf))
 (Qc (Qlo 4 5 rfl sc_L_leaps.nd (Qe (Z5 (Qa 4) (Qj (Qa 7) Qf)) (Qe (Z5 (Qa 5) (Qj (Qa 7) Qf)) Ql)))
 (Qi (Qw 6 sc_L_leaps.nd (Z5 (Qa 6) Qf)))))))))
 (Qi (QH (Yh (Qe (Qa 1) (Qe (Qa 5) (Qe (Qa 4) (Qe (Qa 6) Ql)))))))))),hm,F.kp,F.binds (ps:=["_law_table_here", "_law_stretches", "_law_steps", "_law_most"]) (fun _ _ _ _ _ _ us hl=>by obtain⟨_,_,_,_,rfl⟩:=L3.len4 hl; rfl)⟩,Qt _ _ _⟩
theorem QbO (Z:Zk K mg ca):FnH P w K mg base ca "_law_fast" 8 4 Y1:=by
 obtain⟨f,fd,F,hm⟩:=Z.u_L_fast
 exact⟨⟨f,fd,["_law_machine", "_law_stretches", "_law_steps", "_law_most"],Q7 F sc_L_fast rfl rfl (fun cdv A outer s H E hr=>(Qc (Qw 4 sc_L_fast.nd JF)
 (Qc (Qkr Z.t_TooLong (Qi (Qw 4 sc_L_fast.nd (Qp (Qdj Z) (hr.mono (by omega)) (Qe (Qa 0) (Qe (Qa 1) (Qe (Qa 2) (Qe (Qa 3) Ql))))))) (fun a=>(Qi (Qw 4 sc_L_fast.nd QcX))))
 (Qi (QH (Qa 4)))))),hm,F.kp,F.binds (ps:=["_law_machine", "_law_stretches", "_law_steps", "_law_most"]) (fun _ _ _ _ _ _ us hl=>by obtain⟨_,_,_,_,rfl⟩:=L3.len4 hl; rfl)⟩,Qt _ _ _⟩
theorem QcJ (Z:Zk K mg ca):FnH P w K mg base ca "_law_far" 2 2 JV:=by
 obtain⟨f,fd,F,hm⟩:=Z.u_L_far
 exact⟨⟨f,fd,["_law_script", "_law_at"],Q7 F sc_L_far rfl rfl (fun cdv A outer s H E hr=>(Qc (Qw 2 sc_L_far.nd (Qp (Z2 Z) (hr.mono (by omega)) (Qe (Qa 0) (Qe (Qa 1) Ql))))
 (Qc (Qw 3 sc_L_far.nd (QaL (QbT (Z7 Z.z_len (Qa 0)) Qf) (Qj (Qa 0) (ZH (Qj (Qa 1) Qf) (Z7 Z.z_len (Qa 0)))) Qf))
 (Qc (Qw 4 sc_L_far.nd Qf)
 (Qc (QbR rfl (YX Z.z_range (ZH (Yj (Qa 2) Qf) Qf)) (QL 5 sc_L_far.nd) (Qi (Qw 4 sc_L_far.nd (Qck (Qa 4) Qf))))
 (Qi (QH (Z5 Qf (ZH (Z5 (ZH (Qa 3) (Qkv Qf Qf)) (Qck (Qa 2) (Qkv Qf Qf))) (Qa 4)))))))))),hm,F.kp,F.binds (ps:=["_law_script", "_law_at"]) (fun _ _ _ _ _ _ us hl=>by obtain⟨_,_,rfl⟩:=L3.len2 hl; rfl)⟩,Qt _ _ _⟩
theorem JM (Z:Zk K mg ca):FnH P w K mg base ca "_law_great_row" 3 3 Z8:=by
 obtain⟨f,fd,F,hm⟩:=Z.u_L_great_row
 exact⟨⟨f,fd,["_law_script", "_law_at", "_law_signs"],Q7 F sc_L_great_row rfl rfl (fun cdv A outer s H E hr=>(Qc (Qw 3 sc_L_great_row.nd (JS Ql))
 (Qc (Qw 4 sc_L_great_row.nd JF)
 (Qc (QbR rfl (YX Z.z_range (ZH (Qp (Z2 Z) (hr.mono (by omega)) (Qe (Qa 0) (Qe (Qa 1) Ql))) Qf)) (QL 5 sc_L_great_row.nd) (Qc (Qw 6 sc_L_great_row.nd (Qp (Z2 Z) (hr.mono (by omega)) (Qe (Qa 0) (Qe (Qa 1) Ql))))
 (Qc (Qw 7 sc_L_great_row.nd (ZH (Qa 6) (Qa 2)))
 (Qc (Qw 8 sc_L_great_row.nd (Z5 Qf (ZH (Yj (Qa 6) Qf) Qf)))
 (Qc (r_if (Z6 hr (ZH (Yj (Qa 6) Qf) Qf) Qf) (Qi (Qw 8 sc_L_great_row.nd (Qp (QcJ Z) (hr.mono (by omega)) (Qe (Qa 0) (Qe (Qa 1) Ql))))) Qv)
 (Qi (r_if (QaM hr (Qa 7) (Qa 4)) (Qc (Z0 (QaY (Qa 3) (Yh (Qe (Qa 7) (Qe (Qa 8) Ql)))))
 (Qi (Qw 4 sc_L_great_row.nd (Qa 7)))) Qv)))))))
 (Qc (r_if (Z6 hr (Qa 4) Qf) (Qi (Z0 (Qkj (Qa 3)))) Qv)
 (Qi (QH (Qa 3)))))))),hm,F.kp,F.binds (ps:=["_law_script", "_law_at", "_law_signs"]) (fun _ _ _ _ _ _ us hl=>by obtain⟨_,_,_,rfl⟩:=L3.len3 hl; rfl)⟩,Qt _ _ _⟩
theorem Qfh (Z:Zk K mg ca):FnH P w K mg base ca "_law_split" 9 5 Qaa:=by
 obtain⟨f,fd,F,hm⟩:=Z.u_L_split
 exact⟨⟨f,fd,["_law_machine", "_law_start", "_law_steps", "_law_cut_here", "_law_due"],Q7 F sc_L_split rfl rfl (fun cdv A outer s H E hr=>(Qc (Qw 5 sc_L_split.nd (Qp (QbO Z) (hr.mono (by omega)) (Qe (Qa 0) (Qe (Qa 1) (Qe (Qa 3) (Qe Qf Ql))))))
 (Qc (r_if (r_w (QaK (Z6 hr (Qa 5) QcX) (QaK (Qc2 (Qa 5) JF) (Jf (QbT (Qj (Qa 5) Qf) (Qa 3)))))) (Qi (QH r_bl)) Qv)
 (Qc (Qw 6 sc_L_split.nd (Qp (QbO Z) (hr.mono (by omega)) (Qe (Qa 0) (Qe (Qj (Qa 5) Qf) (Qe (QbS (Qa 2) (Qa 3)) (Qe Qf Ql))))))
 (Qc (r_if (r_w (QaK (Z6 hr (Qa 6) QcX) (Jf (Qc2 (Qa 6) JF)))) (Qi (QH r_bl)) Qv)
 (Qc (r_if (JH (ZZ (Qp (QbL Z 6) (hr.mono (by omega)) (Qe (Yh (Qe (Qj (Qa 6) Qf) (Qe (Z5 (Qj (Qa 5) Qf) (Qj (Qa 6) Qf)) (Qe (Z5 (Qj (Qa 5) Qf) (Qj (Qa 6) Qf)) Ql)))) (Qe (Qap (Qa 4) Jw (Qb5 Qf)) Ql))))) (Qi (QH r_bl)) Qv)
 (Qi (QH (r_in (Z5 (Qj (Qa 5) Qf) (Qj (Qa 6) Qf)) (Yh (Qe (Qj (Qa 4) Qf) (Qe (Z5 (Qj (Qa 4) Qf) Qf) Ql)))))))))))),hm,F.kp,F.binds (ps:=["_law_machine", "_law_start", "_law_steps", "_law_cut_here", "_law_due"]) (fun _ _ _ _ _ _ us hl=>by obtain⟨_,_,_,_,_,rfl⟩:=L3.len5 hl; rfl)⟩,Qt _ _ _⟩
theorem Qfi (Z:Zk K mg ca):FnH P w K mg base ca "_law_round" 10 2 Qbu:=by
 obtain⟨f,fd,F,hm⟩:=Z.u_L_round
 exact⟨⟨f,fd,["_law_script", "_law_at"],Q7 F sc_L_round rfl rfl (fun cdv A outer s H E hr=>(Qc (Qw 2 sc_L_round.nd (Qp (QbM Z) (hr.mono (by omega)) (Qe (Qa 0) (Qe (Qa 1) Ql))))
 (Qc (Qw 3 sc_L_round.nd (QhU (QbJ Z) (hr.mono (by omega)) (Qe (Qa 2) Ql)))
 (Qc (Qw 4 sc_L_round.nd (Z7 Z.z_len (Qj (Qa 2) Qf)))
 (Qc (Qw 5 sc_L_round.nd (ZH (Qp (Z2 Z) (hr.mono (by omega)) (Qe (Qa 0) (Qe (Qa 1) Ql))) (Z7 Z.z_len (Qa 2))))
 (Qc (Qw 6 sc_L_round.nd (Yh (Qe (Qa 5) (Qe (Qp (JM Z) (hr.mono (by omega)) (Qe (Qa 0) (Qe (Qa 1) (Qe (Qa 4) Ql)))) (Qe (Qp (JM Z) (hr.mono (by omega)) (Qe (Qa 0) (Qe (Qa 1) (Qe (Qa 4) Ql)))) Ql)))))
 (Qc (Qw 7 sc_L_round.nd (Qp (Z2 Z) (hr.mono (by omega)) (Qe (Qa 0) (Qe (Qa 1) Ql))))
 (Qc (Qw 8 sc_L_round.nd (Qp (QcJ Z) (hr.mono (by omega)) (Qe (Qa 0) (Qe (Qa 1) Ql))))
 (Qc (r_if (Z6 hr (ZH (Qa 7) Qf) Qf) (Qi (Qw 8 sc_L_round.nd (ZH (Yj (Qa 7) Qf) Qf))) Qv)
 (Qc (Qw 9 sc_L_round.nd (ZH (Yj (Qa 7) Qf) Qf))
 (Qc (Qw 10 sc_L_round.nd (Qp (Qfg Z) (hr.mono (by omega)) (Qe (Qa 2) (Qe (Qa 6) (Qe (Qa 8) (Qe (Qa 9) Ql))))))
 (Qc (Qw 11 sc_L_round.nd (Qp (QbO Z) (hr.mono (by omega)) (Qe (Qa 3) (Qe (Qa 6) (Qe (Qa 8) (Qe (Qa 9) Ql))))))
 (Qc (r_if (Qc2 (Qa 10) JF) (Qi (QH (r_eq hr (Qa 11) QcX))) Qv)
 (Qc (r_if (JH (ZZ (Qp (QbL Z 6) (hr.mono (by omega)) (Qe (Qa 11) (Qe (Qa 10) Ql))))) (Qi (QH r_bl)) Qv)
 (Qi (QH (Qp (Qfh Z) (hr.mono (by omega)) (Qe (Qa 3) (Qe (Qa 6) (Qe (Qa 8) (Qe (ZH (Qp (QcJ Z) (hr.mono (by omega)) (Qe (Qa 0) (Qe (Qa 1) Ql))) (Z5 (Qa 8) Qf)) (Qe (Qa 10) Ql)))))))))))))))))))))),hm,F.kp,F.binds (ps:=["_law_script", "_law_at"]) (fun _ _ _ _ _ _ us hl=>by obtain⟨_,_,rfl⟩:=L3.len2 hl; rfl)⟩,Qt _ _ _⟩
theorem QkQ (Z:Zk K mg ca) {f:Addr} {fd:FuncData} (F:Fun K "law" "law" QdR f fd):FnOk P w K mg base (CXW P w ca) 11 f fd ["_law_script"] (spM K ca 1 Qhq) :=
 Q7 F sc_law rfl rfl (fun cdv A outer s H E hr=>(Qc (Qw 1 sc_law.nd (JS (Qe Qf Ql)))
 (Qc (QbR rfl (YX Z.z_range (Z5 Qf (Yj (Z7 Z.z_len (Qap (Qa 0) Jw (Qb5 Qf))) Qf))) (QL 2 sc_law.nd) (Qi (r_if (JH (ZZ (Qp (Qfi Z) (hr.mono (by omega)) (Qe (Qa 0) (Qe (Qa 1) Ql))))) (Qi (QH r_bl)) Qv)))
 (Qi (QH r_bl)))))
end
end V
end
section
namespace V
open PySem PySem.Spec PyProof.Rows L2 L3
noncomputable def caOf (l:List Nat) (n:Nat):Addr:=l.getD n 0
theorem z_mk {K:PySem.W.Frag} {h:Heap} {mg:Str->Option Value} (X:K.In h) (G:h.Ns mainGlobals mg) {C0 C1 C5 C6 C11 C13:Addr} {oc1 kV1 dc1 pm1 cd1 ct1:Value} {od1 an1:Option Addr} {sl1:Array (Option Value)} {f1:Addr} {oc2 kV2 dc2 pm2 cd2 ct2:Value} {od2 an2:Option Addr} {sl2:Array (Option Value)} {f2:Addr} {oc3 kV3 dc3 pm3 cd3 ct3:Value} {od3 an3:Option Addr} {sl3:Array (Option Value)} {f3:Addr} {oc4 kV4 dc4 pm4 cd4 ct4:Value} {od4 an4:Option Addr} {sl4:Array (Option Value)} {f4:Addr} {oc5 kV5 dc5 pm5 cd5 ct5:Value} {od5 an5:Option Addr} {sl5:Array (Option Value)} {f5:Addr} {oc6 kV6 dc6 pm6 cd6 ct6:Value} {od6 an6:Option Addr} {sl6:Array (Option Value)} {f6:Addr} {oc7 kV7 dc7 pm7 cd7 ct7:Value} {od7 an7:Option Addr} {sl7:Array (Option Value)} {f7:Addr} {oc8 kV8 dc8 pm8 cd8 ct8:Value} {od8 an8:Option Addr} {sl8:Array (Option Value)} {f8:Addr} {oc9 kV9 dc9 pm9 cd9 ct9:Value} {od9 an9:Option Addr} {sl9:Array (Option Value)} {f9:Addr} {oc10 kV10 dc10 pm10 cd10 ct10:Value} {od10 an10:Option Addr} {sl10:Array (Option Value)} {f10:Addr} {oc11 kV11 dc11 pm11 cd11 ct11:Value} {od11 an11:Option Addr} {sl11:Array (Option Value)} {f11:Addr} {oc12 kV12 dc12 pm12 cd12 ct12:Value} {od12 an12:Option Addr} {sl12:Array (Option Value)} {f12:Addr} {oc13 kV13 dc13 pm13 cd13 ct13:Value} {od13 an13:Option Addr} {sl13:Array (Option Value)} {f13:Addr} {oc14 kV14 dc14 pm14 cd14 ct14:Value} {od14 an14:Option Addr} {sl14:Array (Option Value)} {f14:Addr} {oc15 kV15 dc15 pm15 cd15 ct15:Value} {od15 an15:Option Addr} {sl15:Array (Option Value)} {f15:Addr} {oc16 kV16 dc16 pm16 cd16 ct16:Value} {od16 an16:Option Addr} {sl16:Array (Option Value)} {f16:Addr} {oc17 kV17 dc17 pm17 cd17 ct17:Value} {od17 an17:Option Addr} {sl17:Array (Option Value)} {f17:Addr} {oc18 kV18 dc18 pm18 cd18 ct18:Value} {od18 an18:Option Addr} {sl18:Array (Option Value)} {f18:Addr} {oc19 kV19 dc19 pm19 cd19 ct19:Value} {od19 an19:Option Addr} {sl19:Array (Option Value)} {f19:Addr} {oc20 kV20 dc20 pm20 cd20 ct20:Value} {od20 an20:Option Addr} {sl20:Array (Option Value)} {f20:Addr} {oc21 kV21 dc21 pm21 cd21 ct21:Value} {od21 an21:Option Addr} {sl21:Array (Option Value)} {f21:Addr} {oc22 kV22 dc22 pm22 cd22 ct22:Value} {od22 an22:Option Addr} {sl22:Array (Option Value)} {f22:Addr} {oc23 kV23 dc23 pm23 cd23 ct23:Value} {od23 an23:Option Addr} {sl23:Array (Option Value)} {f23:Addr} {oc24 kV24 dc24 pm24 cd24 ct24:Value} {od24 an24:Option Addr} {sl24:Array (Option Value)} {f24:Addr} {oc25 kV25 dc25 pm25 cd25 ct25:Value} {od25 an25:Option Addr} {sl25:Array (Option Value)} {f25:Addr} {oc26 kV26 dc26 pm26 cd26 ct26:Value} {od26 an26:Option Addr} {sl26:Array (Option Value)} {f26:Addr} {oc27 kV27 dc27 pm27 cd27 ct27:Value} {od27 an27:Option Addr} {sl27:Array (Option Value)} {f27:Addr} {oc28 kV28 dc28 pm28 cd28 ct28:Value} {od28 an28:Option Addr} {sl28:Array (Option Value)} {f28:Addr} {oc29 kV29 dc29 pm29 cd29 ct29:Value} {od29 an29:Option Addr} {sl29:Array (Option Value)} {f29:Addr} {oc30 kV30 dc30 pm30 cd30 ct30:Value} {od30 an30:Option Addr} {sl30:Array (Option Value)} {f30:Addr} {oc31 kV31 dc31 pm31 cd31 ct31:Value} {od31 an31:Option Addr} {sl31:Array (Option Value)} {f31:Addr} {oc32 kV32 dc32 pm32 cd32 ct32:Value} {od32 an32:Option Addr} {sl32:Array (Option Value)} {f32:Addr} {oc33 kV33 dc33 pm33 cd33 ct33:Value} {od33 an33:Option Addr} {sl33:Array (Option Value)} {f33:Addr} {oc34 kV34 dc34 pm34 cd34 ct34:Value} {od34 an34:Option Addr} {sl34:Array (Option Value)} {f34:Addr} {oc35 kV35 dc35 pm35 cd35 ct35:Value} {od35 an35:Option Addr} {sl35:Array (Option Value)} {f35:Addr} {oc36 kV36 dc36 pm36 cd36 ct36:Value} {od36 an36:Option Addr} {sl36:Array (Option Value)} {f36:Addr} {oc37 kV37 dc37 pm37 cd37 ct37:Value} {od37 an37:Option Addr} {sl37:Array (Option Value)} {f37:Addr} {og_BLANK:_} {og_LEFT:_} {og_RIGHT:_}
    (c0:PySem.W.nsIn K mainGlobals "TapeError" = some (some (.ref C0)))
    (c1:PySem.W.nsIn K mainGlobals "NoMachine" = some (some (.ref C1)))
    (c5:PySem.W.nsIn K mainGlobals "NoStretches" = some (some (.ref C5)))
    (c6:PySem.W.nsIn K mainGlobals "TooLong" = some (some (.ref C6)))
    (c11:PySem.W.nsIn K mainGlobals "Machine" = some (some (.ref C11)))
    (c13:PySem.W.nsIn K mainGlobals "FastWalk" = some (some (.ref C13)))
    (a1:PySem.W.nsIn K mainGlobals "is_whole" = some (some (.ref f1)))
    (l1:K.lookup f1=some ⟨oc1,od1,.func (PySem.W.fnOf "is_whole" "is_whole" (Qr Yb) (Qq Yb) (Qd Yb) .none kV1 dc1 pm1 an1 cd1 ct1),sl1⟩)
    (d1:PySem.W.codeIn K cd1 "is_whole" = true)
    (k1:PySem.W.keepIn K (.ref f1)=true)
    (a2:PySem.W.nsIn K mainGlobals "is_below" = some (some (.ref f2)))
    (l2:K.lookup f2=some ⟨oc2,od2,.func (PySem.W.fnOf "is_below" "is_below" (Qr Yc) (Qq Yc) (Qd Yc) .none kV2 dc2 pm2 an2 cd2 ct2),sl2⟩)
    (d2:PySem.W.codeIn K cd2 "is_below" = true)
    (k2:PySem.W.keepIn K (.ref f2)=true)
    (a3:PySem.W.nsIn K mainGlobals "is_from_nought" = some (some (.ref f3)))
    (l3:K.lookup f3=some ⟨oc3,od3,.func (PySem.W.fnOf "is_from_nought" "is_from_nought" (Qr QQ) (Qq QQ) (Qd QQ) .none kV3 dc3 pm3 an3 cd3 ct3),sl3⟩)
    (d3:PySem.W.codeIn K cd3 "is_from_nought" = true)
    (k3:PySem.W.keepIn K (.ref f3)=true)
    (a4:PySem.W.nsIn K mainGlobals "is_entry" = some (some (.ref f4)))
    (l4:K.lookup f4=some ⟨oc4,od4,.func (PySem.W.fnOf "is_entry" "is_entry" (Qr Yd) (Qq Yd) (Qd Yd) .none kV4 dc4 pm4 an4 cd4 ct4),sl4⟩)
    (d4:PySem.W.codeIn K cd4 "is_entry" = true)
    (k4:PySem.W.keepIn K (.ref f4)=true)
    (a5:PySem.W.nsIn K mainGlobals "check_rows" = some (some (.ref f5)))
    (l5:K.lookup f5=some ⟨oc5,od5,.func (PySem.W.fnOf "check_rows" "check_rows" (Qr Zh) (Qq Zh) (Qd Zh) .none kV5 dc5 pm5 an5 cd5 ct5),sl5⟩)
    (d5:PySem.W.codeIn K cd5 "check_rows" = true)
    (k5:PySem.W.keepIn K (.ref f5)=true)
    (a6:PySem.W.findIn K (.ref C11) "__init__" = some (some (.ref f6)))
    (l6:K.lookup f6=some ⟨oc6,od6,.func (PySem.W.fnOf "__init__" "Machine.__init__" (Qr QT) (Qq QT) (Qd QT) .none kV6 dc6 pm6 an6 cd6 ct6),sl6⟩)
    (d6:PySem.W.codeIn K cd6 "Machine.__init__" = true)
    (k6:PySem.W.keepIn K (.ref f6)=true)
    (i6:PySem.W.isFn K (.ref f6)=true)
    (m6:PySem.W.makesIn K C11=true)
    (q6:PySem.W.keepIn K (.ref C11)=true)
    (a7:PySem.W.nsIn K mainGlobals "states_of" = some (some (.ref f7)))
    (l7:K.lookup f7=some ⟨oc7,od7,.func (PySem.W.fnOf "states_of" "states_of" (Qr ZT) (Qq ZT) (Qd ZT) .none kV7 dc7 pm7 an7 cd7 ct7),sl7⟩)
    (d7:PySem.W.codeIn K cd7 "states_of" = true)
    (k7:PySem.W.keepIn K (.ref f7)=true)
    (a8:PySem.W.nsIn K mainGlobals "signs_of" = some (some (.ref f8)))
    (l8:K.lookup f8=some ⟨oc8,od8,.func (PySem.W.fnOf "signs_of" "signs_of" (Qr Ye) (Qq Ye) (Qd Ye) .none kV8 dc8 pm8 an8 cd8 ct8),sl8⟩)
    (d8:PySem.W.codeIn K cd8 "signs_of" = true)
    (k8:PySem.W.keepIn K (.ref f8)=true)
    (a9:PySem.W.nsIn K mainGlobals "add_stretch" = some (some (.ref f9)))
    (l9:K.lookup f9=some ⟨oc9,od9,.func (PySem.W.fnOf "add_stretch" "add_stretch" (Qr Zm) (Qq Zm) (Qd Zm) .none kV9 dc9 pm9 an9 cd9 ct9),sl9⟩)
    (d9:PySem.W.codeIn K cd9 "add_stretch" = true)
    (k9:PySem.W.keepIn K (.ref f9)=true)
    (a10:PySem.W.nsIn K mainGlobals "is_stretch" = some (some (.ref f10)))
    (l10:K.lookup f10=some ⟨oc10,od10,.func (PySem.W.fnOf "is_stretch" "is_stretch" (Qr ZD) (Qq ZD) (Qd ZD) .none kV10 dc10 pm10 an10 cd10 ct10),sl10⟩)
    (d10:PySem.W.codeIn K cd10 "is_stretch" = true)
    (k10:PySem.W.keepIn K (.ref f10)=true)
    (a11:PySem.W.nsIn K mainGlobals "check_side" = some (some (.ref f11)))
    (l11:K.lookup f11=some ⟨oc11,od11,.func (PySem.W.fnOf "check_side" "check_side" (Qr Zi) (Qq Zi) (Qd Zi) .none kV11 dc11 pm11 an11 cd11 ct11),sl11⟩)
    (d11:PySem.W.codeIn K cd11 "check_side" = true)
    (k11:PySem.W.keepIn K (.ref f11)=true)
    (a12:PySem.W.nsIn K mainGlobals "check_stretches" = some (some (.ref f12)))
    (l12:K.lookup f12=some ⟨oc12,od12,.func (PySem.W.fnOf "check_stretches" "check_stretches" (Qr QK) (Qq QK) (Qd QK) .none kV12 dc12 pm12 an12 cd12 ct12),sl12⟩)
    (d12:PySem.W.codeIn K cd12 "check_stretches" = true)
    (k12:PySem.W.keepIn K (.ref f12)=true)
    (a13:PySem.W.nsIn K mainGlobals "put" = some (some (.ref f13)))
    (l13:K.lookup f13=some ⟨oc13,od13,.func (PySem.W.fnOf "put" "put" (Qr Qfd) (Qq Qfd) (Qd Qfd) .none kV13 dc13 pm13 an13 cd13 ct13),sl13⟩)
    (d13:PySem.W.codeIn K cd13 "put" = true)
    (k13:PySem.W.keepIn K (.ref f13)=true)
    (a14:PySem.W.nsIn K mainGlobals "drop" = some (some (.ref f14)))
    (l14:K.lookup f14=some ⟨oc14,od14,.func (PySem.W.fnOf "drop" "drop" (Qr Qcb) (Qq Qcb) (Qd Qcb) .none kV14 dc14 pm14 an14 cd14 ct14),sl14⟩)
    (d14:PySem.W.codeIn K cd14 "drop" = true)
    (k14:PySem.W.keepIn K (.ref f14)=true)
    (a15:PySem.W.nsIn K mainGlobals "nearest_sign" = some (some (.ref f15)))
    (l15:K.lookup f15=some ⟨oc15,od15,.func (PySem.W.fnOf "nearest_sign" "nearest_sign" (Qr Q4) (Qq Q4) (Qd Q4) .none kV15 dc15 pm15 an15 cd15 ct15),sl15⟩)
    (d15:PySem.W.codeIn K cd15 "nearest_sign" = true)
    (k15:PySem.W.keepIn K (.ref f15)=true)
    (a16:PySem.W.nsIn K mainGlobals "alike" = some (some (.ref f16)))
    (l16:K.lookup f16=some ⟨oc16,od16,.func (PySem.W.fnOf "alike" "alike" (Qr Qaw) (Qq Qaw) (Qd Qaw) .none kV16 dc16 pm16 an16 cd16 ct16),sl16⟩)
    (d16:PySem.W.codeIn K cd16 "alike" = true)
    (k16:PySem.W.keepIn K (.ref f16)=true)
    (a17:PySem.W.findIn K (.ref C13) "__init__" = some (some (.ref f17)))
    (l17:K.lookup f17=some ⟨oc17,od17,.func (PySem.W.fnOf "__init__" "FastWalk.__init__" (Qr QX) (Qq QX) (Qd QX) .none kV17 dc17 pm17 an17 cd17 ct17),sl17⟩)
    (d17:PySem.W.codeIn K cd17 "FastWalk.__init__" = true)
    (k17:PySem.W.keepIn K (.ref f17)=true)
    (i17:PySem.W.isFn K (.ref f17)=true)
    (m17:PySem.W.makesIn K C13=true)
    (q17:PySem.W.keepIn K (.ref C13)=true)
    (a18:PySem.W.findIn K (.ref C13) "entry" = some (some (.ref f18)))
    (l18:K.lookup f18=some ⟨oc18,od18,.func (PySem.W.fnOf "entry" "FastWalk.entry" (Qr QR) (Qq QR) (Qd QR) .none kV18 dc18 pm18 an18 cd18 ct18),sl18⟩)
    (d18:PySem.W.codeIn K cd18 "FastWalk.entry" = true)
    (k18:PySem.W.keepIn K (.ref f18)=true)
    (i18:PySem.W.isFn K (.ref f18)=true)
    (w18:clsB K C13=true)
    (a19:PySem.W.findIn K (.ref C13) "leap" = some (some (.ref f19)))
    (l19:K.lookup f19=some ⟨oc19,od19,.func (PySem.W.fnOf "leap" "FastWalk.leap" (Qr QY) (Qq QY) (Qd QY) .none kV19 dc19 pm19 an19 cd19 ct19),sl19⟩)
    (d19:PySem.W.codeIn K cd19 "FastWalk.leap" = true)
    (k19:PySem.W.keepIn K (.ref f19)=true)
    (i19:PySem.W.isFn K (.ref f19)=true)
    (w19:clsB K C13=true)
    (a20:PySem.W.findIn K (.ref C13) "row" = some (some (.ref f20)))
    (l20:K.lookup f20=some ⟨oc20,od20,.func (PySem.W.fnOf "row" "FastWalk.row" (Qr Q5) (Qq Q5) (Qd Q5) .none kV20 dc20 pm20 an20 cd20 ct20),sl20⟩)
    (d20:PySem.W.codeIn K cd20 "FastWalk.row" = true)
    (k20:PySem.W.keepIn K (.ref f20)=true)
    (i20:PySem.W.isFn K (.ref f20)=true)
    (w20:clsB K C13=true)
    (a21:PySem.W.nsIn K mainGlobals "check_of_machine" = some (some (.ref f21)))
    (l21:K.lookup f21=some ⟨oc21,od21,.func (PySem.W.fnOf "check_of_machine" "check_of_machine" (Qr QA) (Qq QA) (Qd QA) .none kV21 dc21 pm21 an21 cd21 ct21),sl21⟩)
    (d21:PySem.W.codeIn K cd21 "check_of_machine" = true)
    (k21:PySem.W.keepIn K (.ref f21)=true)
    (a22:PySem.W.nsIn K mainGlobals "fast_from" = some (some (.ref f22)))
    (l22:K.lookup f22=some ⟨oc22,od22,.func (PySem.W.fnOf "fast_from" "fast_from" (Qr ZU) (Qq ZU) (Qd ZU) .none kV22 dc22 pm22 an22 cd22 ct22),sl22⟩)
    (d22:PySem.W.codeIn K cd22 "fast_from" = true)
    (k22:PySem.W.keepIn K (.ref f22)=true)
    (a23:PySem.W.nsIn K mainGlobals "_law_next" = some (some (.ref f23)))
    (l23:K.lookup f23=some ⟨oc23,od23,.func (PySem.W.fnOf "_law_next" "_law_next" (Qr JA) (Qq JA) (Qd JA) .none kV23 dc23 pm23 an23 cd23 ct23),sl23⟩)
    (d23:PySem.W.codeIn K cd23 "_law_next" = true)
    (k23:PySem.W.keepIn K (.ref f23)=true)
    (a24:PySem.W.nsIn K mainGlobals "_law_same" = some (some (.ref f24)))
    (l24:K.lookup f24=some ⟨oc24,od24,.func (PySem.W.fnOf "_law_same" "_law_same" (Qr Y6) (Qq Y6) (Qd Y6) .none kV24 dc24 pm24 an24 cd24 ct24),sl24⟩)
    (d24:PySem.W.codeIn K cd24 "_law_same" = true)
    (k24:PySem.W.keepIn K (.ref f24)=true)
    (a25:PySem.W.nsIn K mainGlobals "_law_table" = some (some (.ref f25)))
    (l25:K.lookup f25=some ⟨oc25,od25,.func (PySem.W.fnOf "_law_table" "_law_table" (Qr YS) (Qq YS) (Qd YS) .none kV25 dc25 pm25 an25 cd25 ct25),sl25⟩)
    (d25:PySem.W.codeIn K cd25 "_law_table" = true)
    (k25:PySem.W.keepIn K (.ref f25)=true)
    (a26:PySem.W.nsIn K mainGlobals "_law_machine_by" = some (some (.ref f26)))
    (l26:K.lookup f26=some ⟨oc26,od26,.func (PySem.W.fnOf "_law_machine_by" "_law_machine_by" (Qr Q6) (Qq Q6) (Qd Q6) .none kV26 dc26 pm26 an26 cd26 ct26),sl26⟩)
    (d26:PySem.W.codeIn K cd26 "_law_machine_by" = true)
    (k26:PySem.W.keepIn K (.ref f26)=true)
    (a27:PySem.W.nsIn K mainGlobals "_law_put" = some (some (.ref f27)))
    (l27:K.lookup f27=some ⟨oc27,od27,.func (PySem.W.fnOf "_law_put" "_law_put" (Qr Qay) (Qq Qay) (Qd Qay) .none kV27 dc27 pm27 an27 cd27 ct27),sl27⟩)
    (d27:PySem.W.codeIn K cd27 "_law_put" = true)
    (k27:PySem.W.keepIn K (.ref f27)=true)
    (a28:PySem.W.nsIn K mainGlobals "_law_cut" = some (some (.ref f28)))
    (l28:K.lookup f28=some ⟨oc28,od28,.func (PySem.W.fnOf "_law_cut" "_law_cut" (Qr Qaz) (Qq Qaz) (Qd Qaz) .none kV28 dc28 pm28 an28 cd28 ct28),sl28⟩)
    (d28:PySem.W.codeIn K cd28 "_law_cut" = true)
    (k28:PySem.W.keepIn K (.ref f28)=true)
    (a29:PySem.W.nsIn K mainGlobals "_law_run_of" = some (some (.ref f29)))
    (l29:K.lookup f29=some ⟨oc29,od29,.func (PySem.W.fnOf "_law_run_of" "_law_run_of" (Qr Yf) (Qq Yf) (Qd Yf) .none kV29 dc29 pm29 an29 cd29 ct29),sl29⟩)
    (d29:PySem.W.codeIn K cd29 "_law_run_of" = true)
    (k29:PySem.W.keepIn K (.ref f29)=true)
    (a30:PySem.W.nsIn K mainGlobals "_law_leap" = some (some (.ref f30)))
    (l30:K.lookup f30=some ⟨oc30,od30,.func (PySem.W.fnOf "_law_leap" "_law_leap" (Qr JB) (Qq JB) (Qd JB) .none kV30 dc30 pm30 an30 cd30 ct30),sl30⟩)
    (d30:PySem.W.codeIn K cd30 "_law_leap" = true)
    (k30:PySem.W.keepIn K (.ref f30)=true)
    (a31:PySem.W.nsIn K mainGlobals "_law_leaps" = some (some (.ref f31)))
    (l31:K.lookup f31=some ⟨oc31,od31,.func (PySem.W.fnOf "_law_leaps" "_law_leaps" (Qr YT) (Qq YT) (Qd YT) .none kV31 dc31 pm31 an31 cd31 ct31),sl31⟩)
    (d31:PySem.W.codeIn K cd31 "_law_leaps" = true)
    (k31:PySem.W.keepIn K (.ref f31)=true)
    (a32:PySem.W.nsIn K mainGlobals "_law_fast" = some (some (.ref f32)))
    (l32:K.lookup f32=some ⟨oc32,od32,.func (PySem.W.fnOf "_law_fast" "_law_fast" (Qr JC) (Qq JC) (Qd JC) .none kV32 dc32 pm32 an32 cd32 ct32),sl32⟩)
    (d32:PySem.W.codeIn K cd32 "_law_fast" = true)
    (k32:PySem.W.keepIn K (.ref f32)=true)
    (a33:PySem.W.nsIn K mainGlobals "_law_far" = some (some (.ref f33)))
    (l33:K.lookup f33=some ⟨oc33,od33,.func (PySem.W.fnOf "_law_far" "_law_far" (Qr QaA) (Qq QaA) (Qd QaA) .none kV33 dc33 pm33 an33 cd33 ct33),sl33⟩)
    (d33:PySem.W.codeIn K cd33 "_law_far" = true)
    (k33:PySem.W.keepIn K (.ref f33)=true)
    (a34:PySem.W.nsIn K mainGlobals "_law_great_row" = some (some (.ref f34)))
    (l34:K.lookup f34=some ⟨oc34,od34,.func (PySem.W.fnOf "_law_great_row" "_law_great_row" (Qr Zn) (Qq Zn) (Qd Zn) .none kV34 dc34 pm34 an34 cd34 ct34),sl34⟩)
    (d34:PySem.W.codeIn K cd34 "_law_great_row" = true)
    (k34:PySem.W.keepIn K (.ref f34)=true)
    (a35:PySem.W.nsIn K mainGlobals "_law_split" = some (some (.ref f35)))
    (l35:K.lookup f35=some ⟨oc35,od35,.func (PySem.W.fnOf "_law_split" "_law_split" (Qr YU) (Qq YU) (Qd YU) .none kV35 dc35 pm35 an35 cd35 ct35),sl35⟩)
    (d35:PySem.W.codeIn K cd35 "_law_split" = true)
    (k35:PySem.W.keepIn K (.ref f35)=true)
    (a36:PySem.W.nsIn K mainGlobals "_law_round" = some (some (.ref f36)))
    (l36:K.lookup f36=some ⟨oc36,od36,.func (PySem.W.fnOf "_law_round" "_law_round" (Qr YV) (Qq YV) (Qd YV) .none kV36 dc36 pm36 an36 cd36 ct36),sl36⟩)
    (d36:PySem.W.codeIn K cd36 "_law_round" = true)
    (k36:PySem.W.keepIn K (.ref f36)=true)
    (a37:PySem.W.nsIn K mainGlobals "law" = some (some (.ref f37)))
    (l37:K.lookup f37=some ⟨oc37,od37,.func (PySem.W.fnOf "law" "law" (Qr QdR) (Qq QdR) (Qd QdR) .none kV37 dc37 pm37 an37 cd37 ct37),sl37⟩)
    (d37:PySem.W.codeIn K cd37 "law" = true)
    (k37:PySem.W.keepIn K (.ref f37)=true)
    (nz_all:PySem.W.nsIn K mainGlobals "all" = some none)
    (nz_any:PySem.W.nsIn K mainGlobals "any" = some none)
    (nz_bool:PySem.W.nsIn K mainGlobals "bool" = some none)
    (nz_int:PySem.W.nsIn K mainGlobals "int" = some none)
    (nz_isinstance:PySem.W.nsIn K mainGlobals "isinstance" = some none)
    (nz_len:PySem.W.nsIn K mainGlobals "len" = some none)
    (nz_list:PySem.W.nsIn K mainGlobals "list" = some none)
    (nz_min:PySem.W.nsIn K mainGlobals "min" = some none)
    (nz_range:PySem.W.nsIn K mainGlobals "range" = some none)
    (nz_reversed:PySem.W.nsIn K mainGlobals "reversed" = some none)
    (nz_str:PySem.W.nsIn K mainGlobals "str" = some none)
    (nz_tuple:PySem.W.nsIn K mainGlobals "tuple" = some none)
    (nz_zip:PySem.W.nsIn K mainGlobals "zip" = some none)
    (ng_BLANK:PySem.W.nsIn K mainGlobals "BLANK" = some (some (.int 0 og_BLANK)))
    (ng_LEFT:PySem.W.nsIn K mainGlobals "LEFT" = some (some (.str (Str.ofString "l") og_LEFT)))
    (ng_RIGHT:PySem.W.nsIn K mainGlobals "RIGHT" = some (some (.str (Str.ofString "r") og_RIGHT)))
    (nt_TooLong:catB K (caOf [C0,C1,0,0,0,C5,C6,0,0,0,0,C11,0,C13]) C6 [6] [0,1,5]=true)
    (ne_TooLong:PySem.W.excIn K C6 bmV "ValueError.__new__" = true)
    (na_left:fldB K (caOf [C0,C1,0,0,0,C5,C6,0,0,0,0,C11,0,C13]) [13] "left" = true)
    (na_moved:fldB K (caOf [C0,C1,0,0,0,C5,C6,0,0,0,0,C11,0,C13]) [13] "moved" = true)
    (na_own:fldB K (caOf [C0,C1,0,0,0,C5,C6,0,0,0,0,C11,0,C13]) [13] "own" = true)
    (na_right:fldB K (caOf [C0,C1,0,0,0,C5,C6,0,0,0,0,C11,0,C13]) [13] "right" = true)
    (na_state:fldB K (caOf [C0,C1,0,0,0,C5,C6,0,0,0,0,C11,0,C13]) [13] "state" = true)
    (na_table:fldB K (caOf [C0,C1,0,0,0,C5,C6,0,0,0,0,C11,0,C13]) [11,13] "table" = true):Zk K mg (caOf [C0,C1,0,0,0,C5,C6,0,0,0,0,C11,0,C13]) :=
  ⟨PySem.W.mg_none_of X G nz_all,
   PySem.W.mg_none_of X G nz_any,
   PySem.W.mg_none_of X G nz_bool,
   PySem.W.mg_none_of X G nz_int,
   PySem.W.mg_none_of X G nz_isinstance,
   PySem.W.mg_none_of X G nz_len,
   PySem.W.mg_none_of X G nz_list,
   PySem.W.mg_none_of X G nz_min,
   PySem.W.mg_none_of X G nz_range,
   PySem.W.mg_none_of X G nz_reversed,
   PySem.W.mg_none_of X G nz_str,
   PySem.W.mg_none_of X G nz_tuple,
   PySem.W.mg_none_of X G nz_zip,
   ⟨_,PySem.W.mg_of X G ng_BLANK⟩,
   ⟨_,PySem.W.mg_of X G ng_LEFT⟩,
   ⟨_,PySem.W.mg_of X G ng_RIGHT⟩,
   ⟨PySem.W.mg_of X G c6,Qks nt_TooLong⟩,
   ⟨PySem.W.mg_of X G c6,ne_TooLong⟩,
   Qb6 na_left,
   Qb6 na_moved,
   Qb6 na_own,
   Qb6 na_right,
   Qb6 na_state,
   Qb6 na_table,
   ⟨f1,_,QC (st:=Yb) l1 d1 k1,PySem.W.mg_of X G a1⟩,
   ⟨f2,_,QC (st:=Yc) l2 d2 k2,PySem.W.mg_of X G a2⟩,
   ⟨f3,_,QC (st:=QQ) l3 d3 k3,PySem.W.mg_of X G a3⟩,
   ⟨f4,_,QC (st:=Yd) l4 d4 k4,PySem.W.mg_of X G a4⟩,
   ⟨f5,_,QC (st:=Zh) l5 d5 k5,PySem.W.mg_of X G a5⟩,
   ⟨f6,_,QC (st:=QT) l6 d6 k6,⟨m6,a6,i6,q6⟩,PySem.W.mg_of X G c11⟩,
   ⟨f7,_,QC (st:=ZT) l7 d7 k7,PySem.W.mg_of X G a7⟩,
   ⟨f8,_,QC (st:=Ye) l8 d8 k8,PySem.W.mg_of X G a8⟩,
   ⟨f9,_,QC (st:=Zm) l9 d9 k9,PySem.W.mg_of X G a9⟩,
   ⟨f10,_,QC (st:=ZD) l10 d10 k10,PySem.W.mg_of X G a10⟩,
   ⟨f11,_,QC (st:=Zi) l11 d11 k11,PySem.W.mg_of X G a11⟩,
   ⟨f12,_,QC (st:=QK) l12 d12 k12,PySem.W.mg_of X G a12⟩,
   ⟨f13,_,QC (st:=Qfd) l13 d13 k13,PySem.W.mg_of X G a13⟩,
   ⟨f14,_,QC (st:=Qcb) l14 d14 k14,PySem.W.mg_of X G a14⟩,
   ⟨f15,_,QC (st:=Q4) l15 d15 k15,PySem.W.mg_of X G a15⟩,
   ⟨f16,_,QC (st:=Qaw) l16 d16 k16,PySem.W.mg_of X G a16⟩,
   ⟨f17,_,QC (st:=QX) l17 d17 k17,⟨m17,a17,i17,q17⟩,PySem.W.mg_of X G c13⟩,
   ⟨f18,_,QC (st:=QR) l18 d18 k18,⟨a18,i18,k18⟩,Qef w18⟩,
   ⟨f19,_,QC (st:=QY) l19 d19 k19,⟨a19,i19,k19⟩,Qef w19⟩,
   ⟨f20,_,QC (st:=Q5) l20 d20 k20,⟨a20,i20,k20⟩,Qef w20⟩,
   ⟨f21,_,QC (st:=QA) l21 d21 k21,PySem.W.mg_of X G a21⟩,
   ⟨f22,_,QC (st:=ZU) l22 d22 k22,PySem.W.mg_of X G a22⟩,
   ⟨f23,_,QC (st:=JA) l23 d23 k23,PySem.W.mg_of X G a23⟩,
   ⟨f24,_,QC (st:=Y6) l24 d24 k24,PySem.W.mg_of X G a24⟩,
   ⟨f25,_,QC (st:=YS) l25 d25 k25,PySem.W.mg_of X G a25⟩,
   ⟨f26,_,QC (st:=Q6) l26 d26 k26,PySem.W.mg_of X G a26⟩,
   ⟨f27,_,QC (st:=Qay) l27 d27 k27,PySem.W.mg_of X G a27⟩,
   ⟨f28,_,QC (st:=Qaz) l28 d28 k28,PySem.W.mg_of X G a28⟩,
   ⟨f29,_,QC (st:=Yf) l29 d29 k29,PySem.W.mg_of X G a29⟩,
   ⟨f30,_,QC (st:=JB) l30 d30 k30,PySem.W.mg_of X G a30⟩,
   ⟨f31,_,QC (st:=YT) l31 d31 k31,PySem.W.mg_of X G a31⟩,
   ⟨f32,_,QC (st:=JC) l32 d32 k32,PySem.W.mg_of X G a32⟩,
   ⟨f33,_,QC (st:=QaA) l33 d33 k33,PySem.W.mg_of X G a33⟩,
   ⟨f34,_,QC (st:=Zn) l34 d34 k34,PySem.W.mg_of X G a34⟩,
   ⟨f35,_,QC (st:=YU) l35 d35 k35,PySem.W.mg_of X G a35⟩,
   ⟨f36,_,QC (st:=YV) l36 d36 k36,PySem.W.mg_of X G a36⟩,
   ⟨f37,_,QC (st:=QdR) l37 d37 k37,PySem.W.mg_of X G a37⟩⟩
theorem walk {l:PySem.W.OpenLaw} {p:Program} {loose:List Str} {XP:(Str->Option Value)->Heap->Prop} {YP:World->Heap->Prop} {d:DefRec} {K:Params->PySem.W.Frag} (C:List Nat) (hn:l.most=some 63) (hdf:d.params.defaults=[]) (hd:d.name = "law")
  (hY:∀(w:World) (h:Heap),YP w h->(K w.params).In h) (F:∀(w:World) (mg:Str->Option Value) (h:Heap),(K w.params).In h->h.Ns mainGlobals mg->Zk (K w.params) mg (caOf C))
  (M:∀ ns:List Int,ns.length≤63->∃ g',Qhq [.fl (ns.map D.int)] []=.ok (.bl true) g'):PySem.W.WalkO p loose XP YP l.row.toRowW d [] (fun f vs=>PySem.call f vs):=by
 refine L2.walk_of (n:=63) (k:=11) (x:="_law_script") (CX:=fun w=>CXW l.prog w (caOf C)) (sp:=fun w=>spM (K w.params) (caOf C) 1 Qhq) hn (by decide) hdf ⟨rfl,by decide,by decide⟩ hY (fun w mg fa h KX G hmg=>?_) (fun w H a ns hl hO hS=>Qkt hO hS (M ns hl)) (fun w H s e s' z=>?_)
 ·have Z:=F w mg h KX G
  obtain⟨f,fd,Fu,hm⟩:=Z.u_law
  rw [hd] at hmg
  have e:=hmg.symm.trans hm
  cases e
  refine⟨fd,fun s u=>?_,fun base _ _=>QkQ Z Fu⟩
  obtain⟨oc,od,kV,doc,pm,an,cdv,ct,osl,rfl,lk,hcd⟩:=Fu.ex
  exact .of_eq rfl
 ·obtain⟨_,_,_,_,_,_,_,_,_,_,z⟩:=z
  exact z
end V
end
section
namespace V
open PySem PySem.W PySem.W.X PySem.Spec PyProof.Rows
theorem walkX_of {as:List Addr} {K:Params->Frag} {n t:Nat} {q:Program} {loose:List Str} {XP:(Str->Option Value)->Heap->Prop} {r:RowW} {d:DefRec} {kwd:List (Str×PySem.Expr)} {run:Value->List Value->Sem Value}
  (e:∀ P,as=(K P).map (·.1)) (h:WalkO q loose XP (InK K) r d kwd run):WalkX q loose XP (obsZ as) (valZ K n t) r d kwd run :=
 fun w s₀ s₁ mg mb G y a o pm cd doc dV kV h1 h2 h3 h4 h5 h6 args vals as' L p1 p2 p3 p4 p5 =>
  h w s₀ s₁ mg mb G (InK.keeps w _ _ (z_facts e y).2.1 L.keeps) a o pm cd doc dV kV h1 h2 h3 h4 h5 h6 args vals as' p1 p2 p3 p4 p5
end V
end
noncomputable def PySem.W.Fast.tw17011511077179260265 : PySem.Program := PySem.Challenge.pw_tapeproof_k23_fast_far
theorem PySem.W.Fast.te17011511077179260265 : PySem.Challenge.pw_tapeproof_k23_fast_far = PySem.W.Fast.tw17011511077179260265 := rfl
def PySem.W.Fast.tw5493699989263014428 : Unit := ()
def PySem.W.Fast.tw9306571680131224132 : Unit := ()
def PySem.W.Fast.tw5408417727374518552 : Unit := ()
def PySem.W.Fast.tw1404078949305944741 : Unit := ()
def PySem.W.Fast.tw964429070658829477 : Unit := ()
def PySem.W.Fast.tw3516606619022923049 : Unit := ()
def PySem.W.Fast.tw11681729404066314597 : Unit := ()
def PySem.W.Fast.tw7868528118347841786 : Unit := ()
def PySem.W.Fast.tw7218638979543020638 : Unit := ()
def PySem.W.Fast.tw10728525360585766134 : Unit := ()
def PySem.W.Fast.tw6795441285350468796 : Unit := ()
def PySem.W.Fast.tw15896535532036938625 : Unit := ()
def PySem.W.Fast.tw9345861753087029991 : Unit := ()
def PySem.W.Fast.tw16711752095242735398 : Unit := ()
def PySem.W.Fast.tw4608131868709572405 : Unit := ()
def PySem.W.Fast.tw6288320856405028461 : Unit := ()
def PySem.W.Fast.tw10082038712948586526 : Unit := ()
def PySem.W.Fast.tw7391302577131940043 : Unit := ()
def PySem.W.Fast.tw3727347728746758820 : Unit := ()
def PySem.W.Fast.tw2866306535739118286 : Unit := ()
def PySem.W.Fast.tw590261426215494182 : Unit := ()
def PySem.W.Fast.tw1365395170543258174 : Unit := ()
def PySem.W.Fast.tw17285970674642609219 : Unit := ()
def PySem.W.Fast.tw1631500842701597527 : Unit := ()
def PySem.W.Fast.tw10308777971439170563 : Unit := ()
def PySem.W.Fast.tw14874825444082277951 : Unit := ()
def PySem.W.Fast.tw7100777310974370908 : Unit := ()
def PySem.W.Fast.tw8766496208023540264 : Unit := ()
def PySem.W.Fast.tw3945460756672108940 : Unit := ()
def PySem.W.Fast.tw12138872082522656657 : Unit := ()
def PySem.W.Fast.tw12670135402618376715 : Unit := ()
def PySem.W.Fast.tw16283022763811111885 : Unit := ()
def PySem.W.Fast.tw17198736423222414778 : Unit := ()
def PySem.W.Fast.tw7325055521287427036 : Unit := ()
def PySem.W.Fast.tw6056095447573260882 : Unit := ()
def PySem.W.Fast.tw12129341038039018702 : Unit := ()
def PySem.W.Fast.tw11359663535270993970 : Unit := ()
def PySem.W.Fast.tw17990736779116589803 : Unit := ()
def PySem.W.Fast.tw10882915237917949556 : Unit := ()
def PySem.W.Fast.tw5133500204108315174 : Unit := ()
def PySem.W.Fast.tw13845854099115403880 : Unit := ()
def PySem.W.Fast.tw5295215646324857318 : Unit := ()
def PySem.W.Fast.tw17184033169530355291 : Unit := ()
def PySem.W.Fast.tw7838377084434300018 : Unit := ()
def PySem.W.Fast.tw3349643152580816988 : Unit := ()
def PySem.W.Fast.tw306150332875466396 : Unit := ()
def PySem.W.Fast.tw13573723868075223535 : Unit := ()
def PySem.W.Fast.tw5359804249803760073 : Unit := ()
def PySem.W.Fast.tw2478571144347936886 : Unit := ()
def PySem.W.Fast.tw2598847491715812921 : Unit := ()
def PySem.W.Fast.tw6544269921255418801 : Unit := ()
def PySem.W.Fast.tw11758006629744386011 : Unit := ()
open PySem PySem.W PyProof.Rows
set_option maxRecDepth 100000 in
set_option maxHeartbeats 0 in
theorem PySem.Challenge.cw_tapeproof_k23_fast_far_holds : PySem.Challenge.rw_tapeproof_k23_fast_far.Holds := by
  w_on; o_law; z_head; (case hw=>w_witness2)
  k_fill
  refine V.walkX_of (fun P=>?E) (V.walk (l:=PySem.Challenge.rw_tapeproof_k23_fast_far) [24,37,0,0,0,49,61,0,0,0,0,111,0,221] rfl rfl rfl (fun w h Y=>Y) ?F L3.law_true)
  case E=>kernel_rfl
  case F =>
    intro w mg h KX G
    refine' V.z_mk KX G ?c0 ?c1 ?c5 ?c6 ?c11 ?c13 ?a1 ?l1 ?d1 ?k1 ?a2 ?l2 ?d2 ?k2 ?a3 ?l3 ?d3 ?k3 ?a4 ?l4 ?d4 ?k4 ?a5 ?l5 ?d5 ?k5 ?a6 ?l6 ?d6 ?k6 ?i6 ?m6 ?q6 ?a7 ?l7 ?d7 ?k7 ?a8 ?l8 ?d8 ?k8 ?a9 ?l9 ?d9 ?k9 ?a10 ?l10 ?d10 ?k10 ?a11 ?l11 ?d11 ?k11 ?a12 ?l12 ?d12 ?k12 ?a13 ?l13 ?d13 ?k13 ?a14 ?l14 ?d14 ?k14 ?a15 ?l15 ?d15 ?k15 ?a16 ?l16 ?d16 ?k16 ?a17 ?l17 ?d17 ?k17 ?i17 ?m17 ?q17 ?a18 ?l18 ?d18 ?k18 ?i18 ?w18 ?a19 ?l19 ?d19 ?k19 ?i19 ?w19 ?a20 ?l20 ?d20 ?k20 ?i20 ?w20 ?a21 ?l21 ?d21 ?k21 ?a22 ?l22 ?d22 ?k22 ?a23 ?l23 ?d23 ?k23 ?a24 ?l24 ?d24 ?k24 ?a25 ?l25 ?d25 ?k25 ?a26 ?l26 ?d26 ?k26 ?a27 ?l27 ?d27 ?k27 ?a28 ?l28 ?d28 ?k28 ?a29 ?l29 ?d29 ?k29 ?a30 ?l30 ?d30 ?k30 ?a31 ?l31 ?d31 ?k31 ?a32 ?l32 ?d32 ?k32 ?a33 ?l33 ?d33 ?k33 ?a34 ?l34 ?d34 ?k34 ?a35 ?l35 ?d35 ?k35 ?a36 ?l36 ?d36 ?k36 ?a37 ?l37 ?d37 ?k37 ?nz_all ?nz_any ?nz_bool ?nz_int ?nz_isinstance ?nz_len ?nz_list ?nz_min ?nz_range ?nz_reversed ?nz_str ?nz_tuple ?nz_zip ?ng_BLANK ?ng_LEFT ?ng_RIGHT ?nt_TooLong ?ne_TooLong ?na_left ?na_moved ?na_own ?na_right ?na_state ?na_table
    (case c0=>k_is); (case c1=>k_is); (case c5=>k_is); (case c6=>k_is); (case c11=>k_is); (case c13=>k_is)
    (case a1=>k_is); (case l1=>k_is); (case d1=>k_is); (case k1=>k_is); (case a2=>k_is); (case l2=>k_is)
    (case d2=>k_is); (case k2=>k_is); (case a3=>k_is); (case l3=>k_is); (case d3=>k_is); (case k3=>k_is)
    (case a4=>k_is); (case l4=>k_is); (case d4=>k_is); (case k4=>k_is); (case a5=>k_is); (case l5=>k_is)
    (case d5=>k_is); (case k5=>k_is); (case a6=>k_is); (case l6=>k_is); (case d6=>k_is); (case k6=>k_is)
    (case i6=>k_is); (case m6=>k_is); (case q6=>k_is); (case a7=>k_is); (case l7=>k_is); (case d7=>k_is)
    (case k7=>k_is); (case a8=>k_is); (case l8=>k_is); (case d8=>k_is); (case k8=>k_is); (case a9=>k_is)
    (case l9=>k_is); (case d9=>k_is); (case k9=>k_is); (case a10=>k_is); (case l10=>k_is); (case d10=>k_is)
    (case k10=>k_is); (case a11=>k_is); (case l11=>k_is); (case d11=>k_is); (case k11=>k_is); (case a12=>k_is)
    (case l12=>k_is); (case d12=>k_is); (case k12=>k_is); (case a13=>k_is); (case l13=>k_is); (case d13=>k_is)
    (case k13=>k_is); (case a14=>k_is); (case l14=>k_is); (case d14=>k_is); (case k14=>k_is); (case a15=>k_is)
    (case l15=>k_is); (case d15=>k_is); (case k15=>k_is); (case a16=>k_is); (case l16=>k_is); (case d16=>k_is)
    (case k16=>k_is); (case a17=>k_is); (case l17=>k_is); (case d17=>k_is); (case k17=>k_is); (case i17=>k_is)
    (case m17=>k_is); (case q17=>k_is); (case a18=>k_is); (case l18=>k_is); (case d18=>k_is); (case k18=>k_is)
    (case i18=>k_is); (case w18=>kernel_rfl); (case a19=>k_is); (case l19=>k_is); (case d19=>k_is); (case k19=>k_is)
    (case i19=>k_is); (case w19=>kernel_rfl); (case a20=>k_is); (case l20=>k_is); (case d20=>k_is); (case k20=>k_is)
    (case i20=>k_is); (case w20=>kernel_rfl); (case a21=>k_is); (case l21=>k_is); (case d21=>k_is); (case k21=>k_is)
    (case a22=>k_is); (case l22=>k_is); (case d22=>k_is); (case k22=>k_is); (case a23=>k_is); (case l23=>k_is)
    (case d23=>k_is); (case k23=>k_is); (case a24=>k_is); (case l24=>k_is); (case d24=>k_is); (case k24=>k_is)
    (case a25=>k_is); (case l25=>k_is); (case d25=>k_is); (case k25=>k_is); (case a26=>k_is); (case l26=>k_is)
    (case d26=>k_is); (case k26=>k_is); (case a27=>k_is); (case l27=>k_is); (case d27=>k_is); (case k27=>k_is)
    (case a28=>k_is); (case l28=>k_is); (case d28=>k_is); (case k28=>k_is); (case a29=>k_is); (case l29=>k_is)
    (case d29=>k_is); (case k29=>k_is); (case a30=>k_is); (case l30=>k_is); (case d30=>k_is); (case k30=>k_is)
    (case a31=>k_is); (case l31=>k_is); (case d31=>k_is); (case k31=>k_is); (case a32=>k_is); (case l32=>k_is)
    (case d32=>k_is); (case k32=>k_is); (case a33=>k_is); (case l33=>k_is); (case d33=>k_is); (case k33=>k_is)
    (case a34=>k_is); (case l34=>k_is); (case d34=>k_is); (case k34=>k_is); (case a35=>k_is); (case l35=>k_is)
    (case d35=>k_is); (case k35=>k_is); (case a36=>k_is); (case l36=>k_is); (case d36=>k_is); (case k36=>k_is)
    (case a37=>k_is); (case l37=>k_is); (case d37=>k_is); (case k37=>k_is); (case nz_all=>k_is); (case nz_any=>k_is)
    (case nz_bool=>k_is); (case nz_int=>k_is); (case nz_isinstance=>k_is); (case nz_len=>k_is); (case nz_list=>k_is); (case nz_min=>k_is)
    (case nz_range=>k_is); (case nz_reversed=>k_is); (case nz_str=>k_is); (case nz_tuple=>k_is); (case nz_zip=>k_is); (case ng_BLANK=>k_is)
    (case ng_LEFT=>k_is); (case ng_RIGHT=>k_is); (case nt_TooLong=>kernel_rfl); (case ne_TooLong=>k_exc); (case na_left=>kernel_rfl); (case na_moved=>kernel_rfl)
    (case na_own=>kernel_rfl); (case na_right=>kernel_rfl); (case na_state=>kernel_rfl); (case na_table=>kernel_rfl)
