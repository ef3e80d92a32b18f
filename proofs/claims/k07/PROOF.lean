import PyProof.Rows.All
import Wide.All
import OpenK.AllK
import Wide.FinOn
import Lean
import PyProof.EqAt
import PyProof.EqKinds
import PyProof.TupleCall
import PySem.Challenge.RW_tapeproof_k07_from_any_shot
local macro_rules | `(tactic| omega) => `(tactic| lia)
set_option Elab.async false
set_option linter.all false
set_option maxRecDepth 100000
namespace L2
open PySem PySem.Spec PyProof.Rows
noncomputable abbrev Key:=Sum Int Str
noncomputable def Qdw:Key->Value->Bool
 | .inl k,v=>Value.isInt k v
 | .inr x,v=>Value.isStrOf x v
noncomputable def keyH (w:World):Key->Int
 | .inl k=>hashInt k
 | .inr x=>hashStr w x
theorem QW:∀ {k:Key} {v:Value},Qdw k v=true->(∃ i t,k=Sum.inl i∧v=Value.int i t)∨(∃ x t,k=Sum.inr x∧v=Value.str x t)
 | .inl i,v,h=>by
  obtain⟨t,e⟩:=Value.isInt_shape (k:=i) (v:=v) h
  exact .inl ⟨i,t,rfl,e⟩
 | .inr x,v,h=>by
  obtain⟨t,e⟩:=Value.isStrOf_shape (x:=x) (v:=v) h
  exact .inr ⟨x,t,rfl,e⟩
theorem QfL (i:Int) (t:Tok):Qdw (.inl i) (.int i t)=true:=by simp [Qdw,Value.isInt]
theorem QfM (x:Str) (t:Tok):Qdw (.inr x) (.str x t)=true:=by simp [Qdw,Value.isStrOf]
theorem Qkx (a b:Int):decide ((Sum.inl a:Key)=Sum.inl b)=(a == b):=by
 by_cases e:a=b
 ·subst e; simp
 ·have h:¬ (Sum.inl a:Key)=Sum.inl b:=fun q=>e (Sum.inl.inj q)
  rw [decide_eq_false h]
  exact(beq_eq_false_iff_ne.mpr e).symm
theorem Qky (a b:Str):decide ((Sum.inr a:Key)=Sum.inr b)=decide (a=b):=by
 by_cases e:a=b
 ·subst e; simp
 ·have h:¬ (Sum.inr a:Key)=Sum.inr b:=fun q=>e (Sum.inr.inj q)
  rw [decide_eq_false h,decide_eq_false e]
theorem Qkz (a:Int) (b:Str):decide ((Sum.inl a:Key)=Sum.inr b)=false:=decide_eq_false (fun q=>nomatch q)
theorem QkA (a:Str) (b:Int):decide ((Sum.inr a:Key)=Sum.inl b)=false:=decide_eq_false (fun q=>nomatch q)
noncomputable def Yi (prog:Program) (w:World):PySem.KeyKind prog w Key where
 is:=Qdw
 hash:=keyH w
 inj:=fun v a b ha hb=>by
  rcases QW ha with⟨i,t,rfl,rfl⟩ | ⟨x,t,rfl,rfl⟩
  ·rcases QW hb with⟨j,u,rfl,e⟩ | ⟨y,u,rfl,e⟩
   ·injection e with e1 _; rw [e1]
   ·exact nomatch e
  ·rcases QW hb with⟨j,u,rfl,e⟩ | ⟨y,u,rfl,e⟩
   ·exact nomatch e
   ·injection e with e1 _; rw [e1]
 byValue:=fun k v h=>by
  rcases QW h with⟨i,t,rfl,rfl⟩ | ⟨x,t,rfl,rfl⟩ <;> rfl
 pyHash:=fun hv h=>by
  rcases QW hv with⟨i,t,rfl,rfl⟩ | ⟨x,t,rfl,rfl⟩
  ·exact wpAny_pyHash_int h
  ·exact wpAny_pyHash_str h
 eqBool:=fun hu hv h=>by
  rcases QW hu with⟨i,t,rfl,rfl⟩ | ⟨x,t,rfl,rfl⟩
  ·rcases QW hv with⟨j,u,rfl,rfl⟩ | ⟨y,u,rfl,rfl⟩
   ·rw [Qkx] at h; exact wpAny_eqBool_int h
   ·rw [Qkz] at h; exact SeqAt.EqAt.int_str i t y u _ _ _ _ h
  ·rcases QW hv with⟨j,u,rfl,rfl⟩ | ⟨y,u,rfl,rfl⟩
   ·rw [QkA] at h; exact SeqAt.EqAt.str_int x t j u _ _ _ _ h
   ·rw [Qky] at h; exact wpAny_eqBool_str h
 «strs»:=fun k x t v h=>by
  rcases QW h with⟨i,u,rfl,e⟩ | ⟨y,u,rfl,e⟩
  ·exact nomatch e
  ·injection e with e1 _
   subst e1
   cases v <;> rfl
theorem Qdx (prog:Program) (w:World) (i:Int) (t:Tok):(Yi prog w).is (.inl i) (.int i t)=true:=QfL i t
theorem Qdy (prog:Program) (w:World) (x:Str) (t:Tok):(Yi prog w).is (.inr x) (.str x t)=true:=QfM x t
end L2
namespace L2
open PySem PySem.Spec PyProof.Rows
inductive V where
 | non | bl (b:Bool) | int (i:Int) | str (x:Str) | byt (b:Array UInt8) | flt (b:UInt64) | ref (a:Addr) | ty (n:String)
 deriving DecidableEq
noncomputable def RelV:V->Value->Prop
 | .non,u=>u=Value.none
 | .bl b,u=>u=Value.bool b
 | .int i,u=>∃ t,u=Value.int i t
 | .str x,u=>∃ t,u=Value.str x t
 | .byt b,u=>∃ t,u=Value.bytes b t
 | .flt b,u=>∃ t,u=Value.float b t
 | .ref a,u=>u=Value.ref a
 | .ty n,u=>u=Value.type n
noncomputable abbrev Vals:List V->List Value->Prop:=Paired RelV
theorem Vals.length {xs:List V} {us:List Value} (r:Vals xs us):xs.length=us.length:=Paired.length r
theorem Vals.get:∀ {xs:List V} {us:List Value} {i:Nat} {x:V},Vals xs us->xs[i]?=some x->∃ u,us[i]?=some u∧RelV x u
 | _,_,_,_,.nil,e=>by simp at e
 | _,_,0,_,.cons r _,e=>by simp at e; subst e; exact⟨_,rfl,r⟩
 | _,_,i+1,x,.cons _ t,e=>by
  obtain⟨u,h1,h2⟩:=Vals.get (i:=i) (x:=x) t (by simpa using e)
  exact⟨u,by simpa using h1,h2⟩
theorem Vals.set {x:V} {u:Value} (r:RelV x u):∀ {xs:List V} {us:List Value} (i:Nat),Vals xs us->Vals (xs.set i x) (us.set i u)
 | _,_,_,.nil=>.nil
 | _,_,0,.cons _ t=>.cons r t
 | _,_,i+1,.cons q t=>.cons q (Vals.set r i t)
theorem Vals.append:∀ {xs ys:List V} {us ws:List Value},Vals xs us->Vals ys ws->Vals (xs++ys) (us++ws)
 | _,_,_,_,.nil,s=>s
 | _,_,_,_,.cons r t,s=>.cons r (Vals.append t s)
theorem Vals.take:∀ {xs:List V} {us:List Value} (n:Nat),Vals xs us->Vals (xs.take n) (us.take n)
 | _,_,0,_=>.nil
 | _,_,_+1,.nil=>.nil
 | _,_,n+1,.cons r t=>.cons r (Vals.take n t)
theorem Vals.drop:∀ {xs:List V} {us:List Value} (n:Nat),Vals xs us->Vals (xs.drop n) (us.drop n)
 | _,_,0,r=>r
 | _,_,_+1,.nil=>.nil
 | _,_,n+1,.cons _ t=>Vals.drop n t
noncomputable def RelO:Option V->Option Value->Prop
 | some v,some u=>RelV v u
 | none,none=>True
 | _,_=>False
noncomputable def KV {κ:Type}:List (κ×V)->List (κ×Value)->Prop:=Paired fun(p:κ×V) (q:κ×Value)=>p.1=q.1∧RelV p.2 q.2
noncomputable def kV:Key->V
 | .inl i=>.int i
 | .inr x=>.str x
inductive HO where
 /-- a list -/
 | lst (xs:List V)
 /-- a tuple (never changes) -/
 | tup (xs:List V)
 /-- a dict whose keys are ints and texts; one whose keys are tuples of ints and texts (the empty one is both) -/
 | dK (kvs:List (Key×V)) | dT (kvs:List (List Key×V))
 /-- a set of ints: its members,its size -/
 | set (S:Int->Bool) (n:Nat)
 /-- an instance of the class at C,its dict at dx,its attributes -/
 | ins (C dx:Addr) (fs:List (Str×V))
 /-- the dict of the instance at x -/
 | own (x:Addr)
 /-- the dict of an exception -/
 | xd (fs:List (Str×V))
 /-- a bound method,f of x -/
 | met (f x:Addr)
 /-- a range object lo,lo+1,.. below hi -/
 | rng (lo hi:Int)
 /-- a thing that is known to the object (the script; a dict while a loop walks it): read,never written while it is so -/
 | frz (o:Obj) (u:HO)
 /-- a code object's table -/
 | tbl (ps:Array Value)
 /-- any other thing,by what is true of its one object (a def of one's own: SetO a S n:=HO.ext fun h=>..) -/
 | ext (φ:Heap->Prop)
noncomputable abbrev Hp:=Addr->Option HO
noncomputable def upd (H:Hp) (a:Addr) (o:HO):Hp:=fun b=>if b=a then some o else H b
theorem Qn {H:Hp} {a:Addr} {o:HO}:upd H a o a=some o:=by unfold upd; rw [if_pos rfl]
theorem Qq {H:Hp} {a b:Addr} {o:HO} (h:b≠a):upd H a o b=H b:=by unfold upd; rw [if_neg h]
theorem Qja {H:Hp} {a b:Addr} {o u:HO} (h:H a=some o) (h':H b=some u) (d:o≠u):a≠b:=by
 intro e; subst e; rw [h] at h'; exact d (Option.some.inj h')
theorem QO {H:Hp} {a b:Addr} {o:HO} (h:H a=some o) (h':H b=none):a≠b:=by
 intro e; subst e; rw [h] at h'; cases h'
section
variable (P:Program) (w:World)
noncomputable def ObjOk (H:Hp) (h:Heap) (a:Addr):HO->Prop
 | .lst xs=>xs.length≤sizeLine∧∃(its:List Value) (n:Nat),Vals xs its∧h.get? a=some { cls:=.type "list",data:=.seq its.toArray n }
 | .tup xs=>xs.length≤sizeLine∧∃ its:List Value,Vals xs its∧IsTup h a its.toArray
 | .dK kvs=>kvs.length≤sizeLine∧(a == sysModules)=false∧∃ vs,KV kvs vs∧h.DictOf (Yi P w) a vs
 | .dT kvs=>kvs.length≤sizeLine∧(a == sysModules)=false∧∃ xs:List (List Key×Addr×Value),
   Paired (fun(p:List Key×V) (q:List Key×Addr×Value)=>p.1=q.1∧H q.2.1=some (.tup (p.1.map kV))∧RelV p.2 q.2.2) kvs xs ∧
   ∃ o es ep,h.get? a=some o∧o.ExactDict∧o.data=.dict es ep∧es.toList=xs.map (entryOfKey (tupleKind (Yi P w)))∧(xs.map (·.1)).Nodup
 | .set S n=>h.SetOf (intKind P w) a S n
 | .ins C dx fs=>H dx=some (.own a)∧fs.length≤1000∧dx≠a∧h.get? a=some (PySem.W.instObj C dx) ∧
   ∃ mA,h.Ns1 dx mA∧(∀ f,RelO (fs.lookup f) (mA f))∧PySem.Within mA (fs.map (·.1))
 | .own _=>∃ o,h.get? a=some o
 | .xd fs=>∃ mA,h.Ns1 a mA∧∀ f,RelO (fs.lookup f) (mA f)
 | .rng lo hi=>∃ t u v,h.get? a=some { cls:=.type "range",data:=.fields #[.int lo t,.int hi u,.int 1 v] }
 | .frz o u=>h.get? a=some o∧ObjOk H h a u
 | .tbl ps=>h.get? a=some { cls:=.none,data:=.fields ps }
 | .met f x=>h.get? a=some (PySem.W.methodObj (.ref f) (.ref x))
 | .ext φ=>φ h∧(∃ o,h.get? a=some o)∧∀ h1 h2:Heap,φ h1->(∀ o,h1.get? a=some o->h2.get? a=some o)->φ h2
noncomputable def HOk (H:Hp) (h:Heap):Prop:=∀ a o,H a=some o->ObjOk P w H h a o
end
section
variable {P:Program} {w:World} {H H':Hp} {h h':Heap} {a:Addr} {o:HO}
theorem ObjOk.lt (x:ObjOk P w H h a o):a<h.objs.size:=by
 cases o with
 | lst xs=>obtain⟨_,_,_,_,e⟩:=x; exact Heap.lt_size e
 | tup xs=>obtain⟨_,_,_,p⟩:=x; exact p.lt
 | dK kvs=>obtain⟨_,_,_,_,o,_,_,e,_⟩:=x; exact Heap.lt_size e
 | dT kvs=>obtain⟨_,_,_,_,o,_,_,e,_⟩:=x; exact Heap.lt_size e
 | set S n=>obtain⟨o,_,_,_,e,_⟩:=x; exact Heap.lt_size e
 | ins C dx fs=>obtain⟨_,_,_,e,_⟩:=x; exact Heap.lt_size e
 | own y=>obtain⟨_,e⟩:=x; exact Heap.lt_size e
 | xd fs=>obtain⟨_,⟨_,_,_,e,_⟩,_⟩:=x; exact Heap.lt_size e
 | rng lo hi=>obtain⟨_,_,_,e⟩:=x; exact Heap.lt_size e
 | frz ob u=>obtain⟨e,_⟩:=x; exact Heap.lt_size e
 | tbl ps=>exact Heap.lt_size (show h.get? a=some _ from x)
 | met f y=>exact Heap.lt_size (show h.get? a=some _ from x)
 | ext φ=>obtain⟨_,⟨_,e⟩,_⟩:=x; exact Heap.lt_size e
theorem Paired.mapP {α β:Type} {F G:α->β->Prop}:∀ {l₁:List α} {l₂:List β},Paired F l₁ l₂->(∀ a b,F a b->G a b)->Paired G l₁ l₂
 | _,_,.nil,_=>.nil
 | _,_,.cons r t,f=>.cons (f _ _ r) (Paired.mapP t f)
theorem Paired.imp' {α β:Type} {F G:α->β->Prop} (f:∀ a b,F a b->G a b) {l₁:List α} {l₂:List β} (r:Paired F l₁ l₂):Paired G l₁ l₂:=Paired.mapP r f
theorem ObjOk.stay (x:ObjOk P w H h a o) (k:∀ b u,(b=a∨H b=some (.own a))->h.get? b=some u->h'.get? b=some u)
  (ho:∀ b,H b=some (.own a)->H' b=some (.own a)) (ht:∀ b xs,H b=some (.tup xs)->H' b=some (.tup xs)):ObjOk P w H' h' a o:=by
 induction o with
 | lst xs=>obtain⟨z,its,n,r,e⟩:=x; exact⟨z,its,n,r,k _ _ (.inl rfl) e⟩
 | tup xs=>obtain⟨z,its,r,ob,e,c⟩:=x; exact⟨z,its,r,ob,k _ _ (.inl rfl) e,c⟩
 | dK kvs=>obtain⟨z,y,vs,r,ob,es,ep,e,c⟩:=x; exact⟨z,y,vs,r,ob,es,ep,k _ _ (.inl rfl) e,c⟩
 | dT kvs =>
  obtain⟨z,y,xs,r,ob,es,ep,e,c⟩:=x
  exact⟨z,y,xs,Paired.mapP r fun p q z=>⟨z.1,ht _ _ z.2.1,z.2.2⟩,ob,es,ep,k _ _ (.inl rfl) e,c⟩
 | set S n=>obtain⟨ob,es,ep,t,e,c⟩:=x; exact⟨ob,es,ep,t,k _ _ (.inl rfl) e,c⟩
 | ins C dx fs =>
  obtain⟨d,z,ne,e,mA,⟨od,es,ep,e2,c⟩,r⟩:=x
  exact⟨ho _ d,z,ne,k _ _ (.inl rfl) e,mA,⟨od,es,ep,k _ _ (.inr d) e2,c⟩,r⟩
 | own y=>obtain⟨ob,e⟩:=x; exact⟨ob,k _ _ (.inl rfl) e⟩
 | xd fs=>obtain⟨mA,⟨od,es,ep,e,c⟩,r⟩:=x; exact⟨mA,⟨od,es,ep,k _ _ (.inl rfl) e,c⟩,r⟩
 | rng lo hi=>obtain⟨t,u,v,e⟩:=x; exact⟨t,u,v,k _ _ (.inl rfl) e⟩
 | frz ob u ih=>obtain⟨e,q⟩:=x; exact⟨k _ _ (.inl rfl) e,ih q⟩
 | tbl ps =>
  have e:h.get? a=some { cls:=.none,data:=.fields ps }:=x
  show h'.get? a=some { cls:=.none,data:=.fields ps }
  exact k a _ (.inl rfl) e
 | met f y =>
  have e:h.get? a=some (PySem.W.methodObj (.ref f) (.ref y)):=x
  show h'.get? a=some (PySem.W.methodObj (.ref f) (.ref y))
  exact k a _ (.inl rfl) e
 | ext φ=>obtain⟨p,⟨o,e⟩,st⟩:=x; exact⟨st _ _ p fun o q=>k _ _ (.inl rfl) q,⟨o,k _ _ (.inl rfl) e⟩,st⟩
theorem HOk.lt (x:HOk P w H h) (e:H a=some o):a<h.objs.size:=(x a o e).lt
theorem HOk.fresh (x:HOk P w H h) (e:h.objs.size≤a):H a=none:=by
 cases q:H a with
 | none=>rfl
 | some u=>exact absurd (Nat.lt_of_lt_of_le (x.lt q) e) (Nat.lt_irrefl _)
theorem HOk.kept (x:HOk P w H h) (k:∀ b u,h.get? b=some u->h'.get? b=some u):HOk P w H h':=fun a o e =>
 (x a o e).stay (fun b u _ q=>k b u q) (fun _ q=>q) fun _ _ q=>q
theorem HOk.laid (x:HOk P w H h) (k:∀ b u,h.get? b=some u->h'.get? b=some u) (hp:h.objs.size≤a) (new:ObjOk P w (upd H a o) h' a o):HOk P w (upd H a o) h':=fun b u e=>by
 have hn:=x.fresh hp
 by_cases hb:b=a
 ·subst hb; rw [Qn] at e; cases e; exact new
 ·rw [Qq hb] at e
  exact(x b u e).stay (fun c v _ q=>k c v q) (fun c q=>by rw [Qq (QO q hn)]; exact q) fun c xs q=>by rw [Qq (QO q hn)]; exact q
end
noncomputable def Rd (H:Hp) (a:Addr) (u:HO):Prop:=H a=some u∨∃ o,H a=some (.frz o u)
theorem Rd.ok {P:Program} {w:World} {H:Hp} {h:Heap} {a:Addr} {u:HO} (r:Rd H a u) (x:HOk P w H h):ObjOk P w H h a u:=by
 rcases r with r | ⟨o,r⟩
 ·exact x a u r
 ·obtain⟨_,q⟩:=x a _ r
  exact q
noncomputable def Mut:Option HO->Prop
 | some (.lst _)=>True
 | some (.dK _)=>True
 | some (.dT _)=>True
 | some (.set _ _)=>True
 | some (.ins _ _ _)=>True
 | some (.ext _)=>True
 | _=>False
section
variable {P:Program} {w:World} {H:Hp} {h h':Heap} {x e:Addr} {o':HO}
theorem HOk.write (ok:HOk P w H h) (mu:Mut (H x)) (he:e=x∨H e=some (.own x)) (k:∀ b u,b≠e->h.get? b=some u->h'.get? b=some u) (heo:∃ u,h'.get? e=some u)
  (new:ObjOk P w (upd H x o') h' x o'):HOk P w (upd H x o') h':=fun b u q=>by
 have nown:∀ c y,H c=some (.own y)->c≠x:=fun c y r z=>by subst z; rw [r] at mu; exact mu
 have ntup:∀ c xs,H c=some (.tup xs)->c≠x:=fun c xs r z=>by subst z; rw [r] at mu; exact mu
 by_cases hb:b=x
 ·subst hb; rw [Qn] at q; cases q; exact new
 ·rw [Qq hb] at q
  by_cases hbe:b=e
  ·have q':H b=some (.own x):=by
    rcases he with z | z
    ·exact absurd (hbe.trans z) hb
    ·rw [hbe]; exact z
   rw [q] at q'; cases q'
   obtain⟨v,hv⟩:=heo
   exact⟨v,by rw [hbe]; exact hv⟩
  ·refine(ok b u q).stay (fun c v hc r=>k c v ?_ r) (fun c r=>by rw [Qq (nown c b r)]; exact r) fun c xs r=>by rw [Qq (ntup c xs r)]; exact r
   rcases hc with rfl | hc
   ·exact hbe
   ·rintro rfl
    rcases he with z | z
    ·exact nown c b hc z
    ·rw [hc] at z; cases z; exact hb rfl
end
structure Un (fs ex:List Addr) (H H':Hp) (h h':Heap):Prop where
 keep:∀ b o,h.get? b=some o->H b=none->b∉fs->b∉ex->h'.get? b=some o
 slot:∀ b o,h.get? b=some o->H b=none->b∈fs->b∉ex->∃ sl,h'.get? b=some { o with slots:=sl }
 free:∀ b o,h.get? b=some o->H b=none->b∉ex->H' b=none
 there:∀ b o,h.get? b=some o->b∉ex->∃ o',h'.get? b=some o'
 tups:∀ b xs,H b=some (.tup xs)->H' b=some (.tup xs)
 frzs:∀ b o u,H b=some (.frz o u)->H' b=some (.frz o u)
 tbls:∀ b ps,H b=some (.tbl ps)->∃ more,H' b=some (.tbl (ps++more))
section
variable {fs fs' ex ex':List Addr} {H H1 H2:Hp} {h h1 h2 h':Heap} {a x e:Addr} {o:HO}
theorem Un.any (u:Un fs ex H H1 h h1) {b:Addr} {ob:Obj} (q:h.get? b=some ob) (n:H b=none) (hx:b∉ex):∃ sl,h1.get? b=some { ob with slots:=sl }:=by
 by_cases hb:b∈fs
 ·exact u.slot b ob q n hb hx
 ·exact⟨ob.slots,u.keep b ob q n hb hx⟩
theorem Un.kept (k:∀ b u,h.get? b=some u->h'.get? b=some u):Un fs ex H H h h' :=
 ⟨fun b ob q _ _ _=>k b ob q,fun b ob q _ _ _=>⟨ob.slots,k b ob q⟩,fun _ _ _ n _=>n,fun b ob q _=>⟨ob,k b ob q⟩,fun _ _ q=>q,fun _ _ _ q=>q,fun _ ps q=>⟨#[],by rw [q]; simp⟩⟩
theorem Un.refl:Un fs ex H H h h:=Un.kept fun _ _ q=>q
theorem Un.laid (k:∀ b u,h.get? b=some u->h'.get? b=some u) (hp:h.objs.size≤a) (hn:H a=none):Un fs ex H (upd H a o) h h' where
 keep:=fun b u q _ _ _=>k b u q
 slot:=fun b u q _ _ _=>⟨u.slots,k b u q⟩
 free:=fun b u q n _=>by rw [Qq (Nat.ne_of_lt (Nat.lt_of_lt_of_le (Heap.lt_size q) hp))]; exact n
 there:=fun b u q _=>⟨u,k b u q⟩
 tups:=fun b xs q=>by rw [Qq (QO q hn)]; exact q
 frzs:=fun b u xs q=>by rw [Qq (QO q hn)]; exact q
 tbls:=fun b ps q=>⟨#[],by rw [Qq (QO q hn),q]; simp⟩
theorem Un.write (mu:Mut (H x)) (he:e=x∨H e=some (.own x)) (k:∀ b u,b≠e->h.get? b=some u->h'.get? b=some u) (heo:∃ u,h'.get? e=some u):Un fs ex H (upd H x o) h h':=by
 have hx:∀ b,H b=none->b≠x:=fun b n z=>by subst z; rw [n] at mu; exact mu
 have hb:∀ b,H b=none->b≠e:=fun b n z=>by
  subst z
  rcases he with r | r
  ·exact hx b n r
  ·rw [n] at r; cases r
 have hm:∀ b u,H b=some u->¬ Mut (some u)->b≠x:=fun b u q nm z=>by subst z; rw [q] at mu; exact nm mu
 refine⟨fun b u q n _ _=>k b u (hb b n) q,fun b u q n _ _=>⟨u.slots,k b u (hb b n) q⟩,fun b u q n _=>by rw [Qq (hx b n)]; exact n,fun b u q _=>?_,
  fun b xs q=>by rw [Qq (hm b _ q fun z=>z)]; exact q,fun b u xs q=>by rw [Qq (hm b _ q fun z=>z)]; exact q,fun b ps q=>⟨#[],by rw [Qq (hm b _ q fun z=>z),q]; simp⟩⟩
 by_cases hbe:b=e
 ·subst hbe; exact heo
 ·exact⟨u,k b u hbe q⟩
end
noncomputable def trk (h:Heap) (H:Hp):List Addr:=(List.range h.objs.size).filter fun a=>(H a).isSome
noncomputable def hidT (h:Heap) (H:Hp):Heap:=PySem.W.hideAll h (trk h H)
theorem QfN (h:Heap) (H:Hp):(hidT h H).objs.size=h.objs.size:=PySem.W.hideAll_size _ _
theorem Qho {h:Heap} {H:Hp} {b:Addr} {o:Obj} (e:h.get? b=some o) (n:H b=none):(hidT h H).get? b=some o :=
 PySem.W.hideAll_get _ e fun hm=>by
  have q:(H b).isSome=true:=(List.mem_filter.mp hm).2
  rw [n] at q; simp at q
theorem Qjb {h:Heap} {H:Hp} {b:Addr} {o:Obj} (e:(hidT h H).get? b=some o):h.get? b=some o∧H b=none:=by
 have e':h.get? b=some o:=PySem.W.of_hideAll (trk h H) e
 refine⟨e',?_⟩
 cases q:H b with
 | none=>rfl
 | some x =>
  have hm:b∈trk h H:=List.mem_filter.mpr ⟨List.mem_range.mpr (Heap.lt_size e'),by simp [q]⟩
  have z:(hidT h H).get? b=none:=PySem.W.hideAll_none (trk h H) hm
  rw [z] at e; cases e
noncomputable def Qjc (g h:Heap) (L:Addr):List (Addr×Obj):=(List.range h.objs.size).filterMap fun a=>if a=L∨(g.get? a).isSome=true then none else (h.get? a).map fun o=>(a,o)
noncomputable def rest (g h:Heap) (L d:Addr):List (Addr×Obj):=(Qjc g h L).filter fun p=>decide (p.1≠d)
end L2
namespace L2
open PySem PySem.Spec PyProof.Rows
structure Mod (K:PySem.W.Frag) (mg:Str->Option Value) (base:Heap):Prop where
 kin:K.In base
 glob:base.Ns mainGlobals mg
 blt:∃ mb,base.Ns builtinsNs mb∧∀ x:Str,x ≠ "__name__" -> mb x=bootBuiltins x
 nolimit:base.NoLimit
/-- the context: a def's body (or a comprehension's block) running. base: fixed through the whole law; s₀,H₀: the entry; outer: the frames whose slots others may change (a def's callers); stack: all frames that run;
   ex: iterators that were made ahead of the entry and are walked here (a comprehension's); fn: the names whose cells were made at the entry (a def: all; a comprehension's block: its own); calm: not within an except suite; pn: pins that every state bears; xe: what is wanted of an exception that leaves the code -/
structure Cx where
 prog:Program
 w:World
 K:PySem.W.Frag
 mg:Str->Option Value
 base:Heap
 A:Around
 N:List Str
 s₀:Shared
 H₀:Hp
 env:Env
 outer:List Env
 stack:List Env
 ex:List Addr
 fn:Str->Bool
 calm:Bool
 pn:List (Addr×Obj)
 xe:Value->Shared->Prop
noncomputable def frs (l:List Env):List Addr:=l.filterMap (·.frame)
noncomputable abbrev Cx.fs (X:Cx):List Addr:=frs X.outer
noncomputable def Vis (sc:Scope) (x:Str):Prop:=sc.names.lookup x=some .local∨sc.names.lookup x=some .cell∨sc.names.lookup x=some .free
noncomputable def Loc (sc:Scope) (x:Str):Prop:=sc.names.lookup x=some .local∨sc.names.lookup x=some .cell
noncomputable def Look (env:Env) (h:Heap) (m:Str->Option Value) (x:Str) (u:Value):Prop :=
 (env.kindOf x=some .local∧m x=some u)∨((env.kindOf x=some .cell∨env.kindOf x=some .free)∧∃ c,env.cells.lookup x=some c∧h.IsCell c (some u))
structure Cx.Ok (X:Cx):Prop where
 mod:Mod X.K X.mg X.base
 kind:X.env.scope.kind=.function
 glob:X.env.globals=mainGlobals
 blt:X.env.builtins=builtinsNs
 above:X.s₀.heap.objs.size≤X.env.locals
 inj:∀ x y c,X.env.cells.lookup x=some c->X.env.cells.lookup y=some c->x=y
 has:∀ x,(X.env.kindOf x=some .cell∨X.env.kindOf x=some .free)->∃ c,X.env.cells.lookup x=some c
 cab:∀ x c,X.fn x=true->X.env.cells.lookup x=some c->X.s₀.heap.objs.size≤c
 hd:X.calm=true->X.A.handled=none
 frames:X.A.frames=some X.stack
 stk:X.stack=X.outer∨(X.stack=X.env::X.outer∧X.env.frame=some X.env.locals)
 exf:∀ b∈X.ex,b≠X.env.locals∧∀ x c,X.env.cells.lookup x=some c->c≠b
 bs:∀ b o,X.base.get? b=some o->X.s₀.heap.get? b=some o∧X.H₀ b=none
 bsz:X.base.objs.size≤X.s₀.heap.objs.size
 noex:∀ b o,X.base.get? b=some o->b∉X.ex
 exfs:∀ b∈X.ex,b∉X.fs
 funs:X.s₀.heap.FunFrames X.base X.outer
 frf:∀ b∈X.fs,X.H₀ b=none
structure Inv (X:Cx) (pins:List (Addr×Obj)) (σ:List (Option V)) (H:Hp) (s:Shared):Prop where
 ok:X.Ok
 os:s.os=X.s₀.os
 bare:AllBare s.gens
 base:Un X.fs X.ex X.H₀ H X.s₀.heap s.heap
 loc:∃ m,s.heap.Ns X.env.locals m∧∀(i:Nat) (x:Str) (v:V),X.N[i]?=some x->σ[i]?=some (some v)->Vis X.env.scope x->∃ u,RelV v u∧Look X.env s.heap m x u
 cell:∀ x c,X.env.cells.lookup x=some c->∃ v,s.heap.IsCell c v
 free:H X.env.locals=none
 freeC:∀ x c,X.env.cells.lookup x=some c->H c=none
 pin:∀ p∈X.pn++pins,s.heap.get? p.1=some p.2∧H p.1=none∧p.1≠X.env.locals∧p.1∉X.fs∧∀ v,p.2.data≠.cell v
 hok:HOk X.prog X.w H s.heap
 len:σ.length=X.N.length
section
variable {X:Cx} {pins:List (Addr×Obj)} {σ:List (Option V)} {H H':Hp} {s:Shared} {h':Heap}
theorem Cx.Ok.nofr (ok:X.Ok) {b:Addr} {o:Obj} (e:X.base.get? b=some o):b∉X.fs:=fun hb=>by
 have:=(ok.funs.mem hb).1
 rw [e] at this; cases this
theorem Inv.bs (I:Inv X pins σ H s):∀ b o,X.base.get? b=some o->s.heap.get? b=some o∧H b=none:=fun b o e =>
 ⟨I.base.keep b o (I.ok.bs b o e).1 (I.ok.bs b o e).2 (I.ok.nofr e) (I.ok.noex b o e),I.base.free b o (I.ok.bs b o e).1 (I.ok.bs b o e).2 (I.ok.noex b o e)⟩
theorem Inv.bk (I:Inv X pins σ H s):∀ b o,X.base.get? b=some o->s.heap.get? b=some o:=fun b o e=>(I.bs b o e).1
theorem Inv.mod (I:Inv X pins σ H s):Mod X.K X.mg X.base:=I.ok.mod
theorem Inv.kIn (I:Inv X pins σ H s):X.K.In s.heap:=I.ok.mod.kin.keeps I.bk
theorem Inv.lt (I:Inv X pins σ H s):X.env.locals<s.heap.objs.size:=let ⟨_,hn,_⟩:=I.loc; hn.lt
theorem Inv.sz (I:Inv X pins σ H s):X.s₀.heap.objs.size≤s.heap.objs.size:=Nat.le_trans I.ok.above (Nat.le_of_lt I.lt)
theorem Inv.nofs (I:Inv X pins σ H s) {a:Addr} (h:s.heap.objs.size≤a):a∉X.fs:=fun hb=>by
 obtain⟨_,o,ho,_⟩:=I.ok.funs.mem hb
 exact absurd (Nat.lt_of_lt_of_le (Heap.lt_size ho) (Nat.le_trans I.sz h)) (Nat.lt_irrefl _)
theorem Inv.cne (I:Inv X pins σ H s):∀ x c,X.env.cells.lookup x=some c->c≠X.env.locals:=fun x c e z=>by
 obtain⟨v,o,ho,hd⟩:=I.cell x c e
 obtain⟨m,⟨o',es,ep,ho',hd',_⟩,_⟩:=I.loc
 rw [z,ho'] at ho; cases ho; rw [hd'] at hd; cases hd
theorem Inv.funs (I:Inv X pins σ H s):s.heap.FunFrames X.base X.outer:=by
 have all:∀(l:List Env),(∀ b∈frs l,b∈X.fs)->X.s₀.heap.FunFrames X.base l->s.heap.FunFrames X.base l:=by
  intro l
  induction l with
  | nil=>intro _ _; trivial
  | cons env r ih =>
   intro hs hl
   obtain⟨hk,⟨L,o,hf,hn,ho,hd⟩,hr⟩:=hl
   have hL:L∈X.fs:=hs L (by unfold frs; rw [List.filterMap_cons,hf]; exact List.mem_cons_self)
   obtain⟨sl,e⟩:=I.base.slot L o ho (I.ok.frf L hL) hL fun z=>I.ok.exfs L z hL
   exact⟨hk,⟨L,_,hf,hn,e,hd⟩,ih (fun b hb=>hs b (by unfold frs; rw [List.filterMap_cons,hf]; exact List.mem_cons_of_mem _ hb)) hr⟩
 exact all X.outer (fun _ hb=>hb) I.ok.funs
theorem Inv.stack (I:Inv X pins σ H s):s.heap.FunFrames X.base X.stack:=by
 rcases I.ok.stk with e | ⟨e,hf⟩
 ·rw [e]; exact I.funs
 ·rw [e]
  obtain⟨m,hn,_⟩:=I.loc
  refine .cons (by rw [I.ok.kind]; decide) hf hn ?_ I.funs
  exact Heap.get?_none_of_le (Nat.le_trans I.ok.bsz I.ok.above)
theorem Inv.stkSub (I:Inv X pins σ H s):∀ b∈frs X.stack,b∈X.env.locals::X.fs:=fun b hb=>by
 rcases I.ok.stk with e | ⟨e,hf⟩
 ·rw [e] at hb; exact List.mem_cons_of_mem _ hb
 ·rw [e] at hb
  unfold frs at hb
  rw [List.filterMap_cons,hf] at hb
  exact hb
theorem Inv.stkFree (I:Inv X pins σ H s):∀ b∈frs X.stack,H b=none:=fun b hb=>by
 rcases List.mem_cons.mp (I.stkSub b hb) with e | hb
 ·rw [e]; exact I.free
 ·obtain⟨_,o,ho,_⟩:=I.ok.funs.mem hb
  exact I.base.free b o ho (I.ok.frf b hb) fun z=>I.ok.exfs b z hb
theorem Inv.step {g':Array GenState} {t':Nat} {d':Drawn} {ch:List Addr} (I:Inv X pins σ H s)
  (hch:∀ b∈ch,(b∈X.ex∨X.s₀.heap.objs.size≤b)∧b≠X.env.locals∧(∀ x c,X.env.cells.lookup x=some c->c≠b)∧∀ p∈X.pn++pins,p.1≠b)
  (keep:∀ b o,b≠X.env.locals->b∉X.fs->b∉ch->s.heap.get? b=some o->H b=none->h'.get? b=some o)
  (slot:∀ b o,b≠X.env.locals->b∈X.fs->b∉ch->s.heap.get? b=some o->H b=none->∃ sl,h'.get? b=some { o with slots:=sl }) (free:∀ b o,b∉ch->s.heap.get? b=some o->H b=none->H' b=none)
  (there:∀ b o,b∉ch->s.heap.get? b=some o->∃ o',h'.get? b=some o')
  (tups:∀ b xs,H b=some (.tup xs)->H' b=some (.tup xs)) (frzs:∀ b o u,H b=some (.frz o u)->H' b=some (.frz o u)) (tbls:∀ b ps,H b=some (.tbl ps)->∃ more,H' b=some (.tbl (ps++more)))
  (ns:∀ m,s.heap.Ns X.env.locals m->h'.Ns X.env.locals m) (hok:HOk X.prog X.w H' h') (hg:AllBare g') :
  Inv X pins σ H' { s with heap:=h',gens:=g',drawn:=d',toks:=t' }:=by
 have neL:∀ b o,X.s₀.heap.get? b=some o->b≠X.env.locals:=fun b o e=>Nat.ne_of_lt (Nat.lt_of_lt_of_le (Heap.lt_size e) I.ok.above)
 have neC:∀ b o,X.s₀.heap.get? b=some o->b∉X.ex->b∉ch:=fun b o e hx hb=>by
  rcases(hch b hb).1 with z | z
  ·exact hx z
  ·exact absurd (Nat.lt_of_lt_of_le (Heap.lt_size e) z) (Nat.lt_irrefl _)
 have cellK:∀ x c,X.env.cells.lookup x=some c->∀ v,s.heap.IsCell c v->h'.IsCell c v:=fun x c e v ⟨o,ho,hd⟩=>by
  have nch:c∉ch:=fun z=>(hch c z).2.2.1 x c e rfl
  by_cases hc:c∈X.fs
  ·obtain⟨sl,q⟩:=slot c o (I.cne x c e) hc nch ho (I.freeC x c e)
   exact⟨_,q,hd⟩
  ·exact⟨o,keep c o (I.cne x c e) hc nch ho (I.freeC x c e),hd⟩
 refine⟨I.ok,I.os,hg,⟨fun b o e n hb hx=>?_,fun b o e n hb hx=>?_,fun b o e n hx=>?_,fun b o e hx=>?_,fun b xs e=>tups b xs (I.base.tups b xs e),fun b o xs e=>frzs b o xs (I.base.frzs b o xs e),fun b ps e=>?_⟩,?_,fun x c e=>?_,?_,fun x c e=>?_,fun p hp=>?_,hok,I.len⟩
 ·exact keep b o (neL b o e) hb (neC b o e hx) (I.base.keep b o e n hb hx) (I.base.free b o e n hx)
 ·obtain⟨sl,e1⟩:=I.base.slot b o e n hb hx
  obtain⟨sl',e2⟩:=slot b _ (neL b o e) hb (neC b o e hx) e1 (I.base.free b o e n hx)
  exact⟨sl',e2⟩
 ·obtain⟨o',e1⟩:=I.base.there b o e hx
  exact free b o' (neC b o e hx) e1 (I.base.free b o e n hx)
 ·obtain⟨o',e1⟩:=I.base.there b o e hx
  exact there b o' (neC b o e hx) e1
 ·obtain⟨m1,e1⟩:=I.base.tbls b ps e
  obtain⟨m2,e2⟩:=tbls b _ e1
  exact⟨m1++m2,by rw [e2,Array.append_assoc]⟩
 ·obtain⟨m,hn,hl⟩:=I.loc
  refine⟨m,ns m hn,fun i x v e1 e2 e3=>?_⟩
  obtain⟨u,r,l⟩:=hl i x v e1 e2 e3
  refine⟨u,r,?_⟩
  rcases l with l | ⟨k,c,e,z⟩
  ·exact .inl l
  ·exact .inr ⟨k,c,e,cellK x c e _ z⟩
 ·obtain⟨v,z⟩:=I.cell x c e
  exact⟨v,cellK x c e v z⟩
 ·obtain⟨m,⟨o,_,_,ho,_⟩,_⟩:=I.loc
  exact free _ o (fun z=>(hch _ z).2.1 rfl) ho I.free
 ·obtain⟨v,o,ho,hd⟩:=I.cell x c e
  exact free c o (fun z=>(hch c z).2.2.1 x c e rfl) ho (I.freeC x c e)
 ·obtain⟨e,n,ne,nf,d⟩:=I.pin p hp
  have nch:p.1∉ch:=fun z=>(hch p.1 z).2.2.2 p hp rfl
  exact⟨keep p.1 p.2 ne nf nch e n,free p.1 p.2 nch e n,ne,nf,d⟩
theorem Inv.un {t':Nat} (I:Inv X pins σ H s) (u:Un X.fs [] H H' s.heap h') (hok:HOk X.prog X.w H' h'):Inv X pins σ H' { s with heap:=h',toks:=t' }:=by
 obtain⟨m,⟨o,es,ep,ho,r⟩,_⟩:=id I.loc
 obtain⟨sl,hL⟩:=u.any ho I.free (by simp)
 exact I.step (g':=s.gens) (d':=s.drawn) (ch:=[]) (fun _ z=>nomatch z) (fun b o _ hb _ e n=>u.keep b o e n hb (by simp)) (fun b o _ hb _ e n=>u.slot b o e n hb (by simp)) (fun b o _ e n=>u.free b o e n (by simp)) (fun b o _ e=>u.there b o e (by simp)) u.tups u.frzs u.tbls (fun m' hm=>by
  obtain⟨o',es',ep',ho',r'⟩:=hm
  rw [ho] at ho'; cases ho'
  exact⟨_,es',ep',hL,r'⟩) hok I.bare
theorem Inv.call {g':Array GenState} {t':Nat} {d':Drawn} {ch:List Addr} (I:Inv X pins σ H s) (u:Un (frs X.stack) ch H H' s.heap h') (hok:HOk X.prog X.w H' h') (hg:AllBare g')
  (hch:∀ b∈ch,(b∈X.ex∨X.s₀.heap.objs.size≤b)∧b≠X.env.locals∧(∀ x c,X.env.cells.lookup x=some c->c≠b)∧∀ p∈X.pn++pins,p.1≠b) :
  Inv X pins σ H' { s with heap:=h',gens:=g',drawn:=d',toks:=t' }:=by
 obtain⟨m,⟨o,es,ep,ho,r⟩,_⟩:=id I.loc
 obtain⟨sl,hL⟩:=u.any ho I.free fun z=>(hch _ z).2.1 rfl
 exact I.step (ch:=ch) hch (fun b o hL hb hc e n=>u.keep b o e n (fun z=>(List.mem_cons.mp (I.stkSub b z)).elim hL hb) hc) (fun b o _ _ hc e n=>u.any e n hc) (fun b o hc e n=>u.free b o e n hc) (fun b o hc e=>u.there b o e hc) u.tups u.frzs u.tbls (fun m' hm=>by
  obtain⟨o',es',ep',ho',r'⟩:=hm
  rw [ho] at ho'; cases ho'
  exact⟨_,es',ep',hL,r'⟩) hok hg
theorem Inv.turned {t':Nat} {it:Addr} (I:Inv X pins σ H s) (k:∀ b o,b≠it->s.heap.get? b=some o->h'.get? b=some o) (hn:H it=none) (hL:it≠X.env.locals)
  (h1:it∈X.ex∨X.s₀.heap.objs.size≤it) (h2:∀ x c,X.env.cells.lookup x=some c->c≠it) (h3:∀ p∈X.pn++pins,p.1≠it):Inv X pins σ H { s with heap:=h',toks:=t' }:=by
 have nit:∀ b u,H b=some u->b≠it:=fun b u e z=>by rw [z,hn] at e; cases e
 refine I.step (g':=s.gens) (d':=s.drawn) (ch:=[it]) (fun b hb=>?_) (fun b o _ _ hc e _=>k b o (fun z=>hc (by simp [z])) e) (fun b o _ _ hc e _=>⟨o.slots,k b o (fun z=>hc (by simp [z])) e⟩) (fun _ _ _ _ n=>n)
  (fun b o hc e=>⟨o,k b o (fun z=>hc (by simp [z])) e⟩) (fun _ _ e=>e) (fun _ _ _ e=>e) (fun b ps e=>⟨#[],by rw [e]; simp⟩) (fun m hm=>?_) (fun b u e=>?_) I.bare
 ·have e:b=it:=by simpa using hb
  subst e
  exact⟨h1,hL,h2,h3⟩
 ·obtain⟨o,es,ep,ho,r⟩:=hm
  exact⟨o,es,ep,k _ o (Ne.symm hL) ho,r⟩
 ·refine(I.hok b u e).stay (fun c v hc q=>k c v ?_ q) (fun _ q=>q) fun _ _ q=>q
  rcases hc with z | z
  ·rw [z]; exact nit b u e
  ·exact nit c _ z
theorem Inv.tok (I:Inv X pins σ H s) (t:Nat):Inv X pins σ H { s with toks:=t }:=I.un (h':=s.heap) (t':=t) Un.refl I.hok
theorem Inv.kept {t':Nat} (I:Inv X pins σ H s) (k:∀ b u,s.heap.get? b=some u->h'.get? b=some u):Inv X pins σ H { s with heap:=h',toks:=t' }:=I.un (Un.kept k) (I.hok.kept k)
theorem Inv.laid {a:Addr} {o:HO} {t':Nat} (I:Inv X pins σ H s) (k:∀ b u,s.heap.get? b=some u->h'.get? b=some u) (hp:s.heap.objs.size≤a) (new:ObjOk X.prog X.w (upd H a o) h' a o) :
  Inv X pins σ (upd H a o) { s with heap:=h',toks:=t' }:=I.un (Un.laid k hp (I.hok.fresh hp)) (I.hok.laid k hp new)
theorem Inv.write {x e:Addr} {o:HO} {t':Nat} (I:Inv X pins σ H s) (mu:Mut (H x)) (he:e=x∨H e=some (.own x)) (k:∀ b u,b≠e->s.heap.get? b=some u->h'.get? b=some u) (heo:∃ u,h'.get? e=some u)
  (new:ObjOk X.prog X.w (upd H x o) h' x o):Inv X pins σ (upd H x o) { s with heap:=h',toks:=t' }:=I.un (Un.write mu he k heo) (I.hok.write mu he k heo new)
theorem Inv.pins_of {pins':List (Addr×Obj)} (I:Inv X pins σ H s) (h:∀ p∈pins',s.heap.get? p.1=some p.2∧H p.1=none∧p.1≠X.env.locals∧p.1∉X.fs∧∀ v,p.2.data≠.cell v):Inv X pins' σ H s :=
 ⟨I.ok,I.os,I.bare,I.base,I.loc,I.cell,I.free,I.freeC,fun p hp=>(List.mem_append.mp hp).elim (fun z=>I.pin p (List.mem_append_left _ z)) (h p),I.hok,I.len⟩
theorem QbX {N:List Str} (hN:N.Nodup) {i j:Nat} {x:Str} (a:N[i]?=some x) (b:N[j]?=some x):i=j:=by
 obtain⟨h1,e1⟩:=List.getElem?_eq_some_iff.mp a
 obtain⟨h2,e2⟩:=List.getElem?_eq_some_iff.mp b
 exact(List.getElem_inj hN).mp (e1.trans e2.symm)
theorem QfO {M:Model} {A:Around} {E:Value->Shared->Prop} {i:Nat} {x:Str} {v:V} {u:Value} {Q:Unit->Shared->Prop} (I:Inv X pins σ H s) (hN:X.N.Nodup) (hi:X.N[i]?=some x) (hx:Loc X.env.scope x) (r:RelV v u)
  (h:∀ s',Inv X pins (σ.set i (some v)) H s'->(∃ a,Heap.SameBut a s.heap s'.heap∧(a=X.env.locals∨X.env.cells.lookup x=some a))->Q () s') (hf:X.fn x=true∨X.env.scope.names.lookup x=some .local:=by first | exact .inl rfl | exact .inr rfl | assumption):wpAny M A (storeName X.env x u) Q E s:=by
 obtain⟨m,hn,hl⟩:=id I.loc
 have hcls:(X.env.scope.kind == .class || (X.env.scope.kind == .module && X.env.locals != X.env.globals))=false:=by rw [I.ok.kind]; rfl
 have hiσ:i<σ.length:=by rw [I.len]; exact(List.getElem?_eq_some_iff.mp hi).1
 have cne:=I.cne
 have tracked:∀ {a:Addr} {h':Heap},(∃ o,s.heap.get? a=some o∧H a=none)->Heap.SameBut a s.heap h'->HOk X.prog X.w H h':=fun {a h'} ha hs b ob e=>by
  obtain⟨_,_,hfree⟩:=ha
  refine(I.hok b ob e).stay (fun c w' hc q=>(hs.2 c ?_).trans q) (fun _ q=>q) fun _ _ q=>q
  rintro rfl
  rcases hc with rfl | hc
  ·rw [hfree] at e; cases e
  ·rw [hfree] at hc; cases hc
 rcases hx with hk | hk
 ·refine wpAny_storeName_local hk hn (fun h' hn' hs=>?_) hcls
  obtain⟨oL,_,_,hoL,_⟩:=id hn
  refine h _ ⟨I.ok,I.os,I.bare,⟨fun b o e n hb hx=>?_,fun b o e n hb hx=>?_,I.base.free,fun b o e hx=>?_,I.base.tups,I.base.frzs,I.base.tbls⟩,⟨_,hn',fun j y v' e1 e2 e3=>?_⟩,fun y c e=>?_,I.free,I.freeC,fun p hp=>?_,tracked ⟨oL,hoL,I.free⟩ hs,by simpa using I.len⟩ ⟨_,hs,.inl rfl⟩
  ·exact(hs.2 b (Nat.ne_of_lt (Nat.lt_of_lt_of_le (Heap.lt_size e) I.ok.above))).trans (I.base.keep b o e n hb hx)
  ·obtain⟨sl,e1⟩:=I.base.slot b o e n hb hx
   exact⟨sl,(hs.2 b (Nat.ne_of_lt (Nat.lt_of_lt_of_le (Heap.lt_size e) I.ok.above))).trans e1⟩
  ·obtain⟨o',e1⟩:=I.base.there b o e hx
   exact⟨o',(hs.2 b (Nat.ne_of_lt (Nat.lt_of_lt_of_le (Heap.lt_size e) I.ok.above))).trans e1⟩
  ·by_cases hj:j=i
   ·subst hj
    rw [hi] at e1; cases e1
    rw [List.getElem?_set_self hiσ] at e2
    cases e2
    exact⟨u,r,.inl ⟨hk,by simp⟩⟩
   ·rw [List.getElem?_set_ne (Ne.symm hj)] at e2
    obtain⟨u',r',q⟩:=hl j y v' e1 e2 e3
    refine⟨u',r',?_⟩
    rcases q with⟨k,e⟩ | ⟨k,c,e,z⟩
    ·refine .inl ⟨k,?_⟩
     have:y≠x:=fun e=>hj (QbX hN e1 (e ▸ hi))
     simp [this,e]
    ·exact .inr ⟨k,c,e,z.sameBut hs (cne y c e)⟩
  ·obtain⟨w',z⟩:=I.cell y c e
   exact⟨w',z.sameBut hs (cne y c e)⟩
  ·obtain⟨e,n,ne,nf,d⟩:=I.pin p hp
   exact⟨(hs.2 p.1 ne).trans e,n,ne,nf,d⟩
 ·have hfn:X.fn x=true:=by
   rcases hf with z | z
   ·exact z
   ·rw [z] at hk; cases hk
  obtain⟨c,hc⟩:=I.ok.has x (.inl hk)
  obtain⟨w',z⟩:=I.cell x c hc
  refine wpAny_storeName_cell I.ok.kind hk hc z (fun h' hc' hs=>?_)
  obtain⟨oc,hoc,hocd⟩:=id z
  refine h { s with heap:=h' } ⟨I.ok,I.os,I.bare,⟨fun b o e n hb hx=>?_,fun b o e n hb hx=>?_,I.base.free,fun b o e hx=>?_,I.base.tups,I.base.frzs,I.base.tbls⟩,⟨m,hn.sameBut hs (Ne.symm (cne x c hc)),fun j y v' e1 e2 e3=>?_⟩,fun y c' e=>?_,I.free,I.freeC,fun p hp=>?_,tracked ⟨oc,hoc,I.freeC x c hc⟩ hs,by simpa using I.len⟩ ⟨c,hs,.inr hc⟩
  ·exact(hs.2 b (Nat.ne_of_lt (Nat.lt_of_lt_of_le (Heap.lt_size e) (I.ok.cab x c hfn hc)))).trans (I.base.keep b o e n hb hx)
  ·obtain⟨sl,e1⟩:=I.base.slot b o e n hb hx
   exact⟨sl,(hs.2 b (Nat.ne_of_lt (Nat.lt_of_lt_of_le (Heap.lt_size e) (I.ok.cab x c hfn hc)))).trans e1⟩
  ·obtain⟨o',e1⟩:=I.base.there b o e hx
   exact⟨o',(hs.2 b (Nat.ne_of_lt (Nat.lt_of_lt_of_le (Heap.lt_size e) (I.ok.cab x c hfn hc)))).trans e1⟩
  ·by_cases hj:j=i
   ·subst hj
    rw [hi] at e1; cases e1
    rw [List.getElem?_set_self hiσ] at e2
    cases e2
    exact⟨u,r,.inr ⟨.inl hk,c,hc,hc'⟩⟩
   ·rw [List.getElem?_set_ne (Ne.symm hj)] at e2
    obtain⟨u',r',q⟩:=hl j y v' e1 e2 e3
    refine⟨u',r',?_⟩
    rcases q with q | ⟨k,c',e,z'⟩
    ·exact .inl q
    ·refine .inr ⟨k,c',e,z'.sameBut hs ?_⟩
     rintro rfl
     exact hj (QbX hN e1 (I.ok.inj _ _ _ e hc ▸ hi))
  ·by_cases hcc:c'=c
   ·subst hcc; exact⟨_,hc'⟩
   ·obtain⟨w2,z2⟩:=I.cell y c' e
    exact⟨w2,z2.sameBut hs hcc⟩
  ·obtain⟨e,n,ne,nf,d⟩:=I.pin p hp
   refine⟨(hs.2 p.1 ?_).trans e,n,ne,nf,d⟩
   intro q
   rw [q,hoc] at e
   have q':oc=p.2:=Option.some.inj e
   exact d w' (by rw [← q']; exact hocd)
theorem QbY {M:Model} {A:Around} {E:Value->Shared->Prop} {i:Nat} {x:Str} {v:V} {u:Value} {Q:Unit->Shared->Prop} (I:Inv X pins σ H s) (hN:X.N.Nodup) (hi:X.N[i]?=some x) (hx:Loc X.env.scope x) (r:RelV v u)
  (h:∀ s',Inv X pins (σ.set i (some v)) H s'->Q () s') (hf:X.fn x=true∨X.env.scope.names.lookup x=some .local:=by first | exact .inl rfl | exact .inr rfl | assumption):wpAny M A (storeName X.env x u) Q E s :=
 QfO I hN hi hx r (fun s' I' _=>h s' I') hf
theorem Inv.call' {s':Shared} {ch:List Addr} (I:Inv X pins σ H s) (ho:s'.os=s.os) (u:Un (frs X.stack) ch H H' s.heap s'.heap) (hok:HOk X.prog X.w H' s'.heap) (hg:AllBare s'.gens)
  (hch:∀ b∈ch,(b∈X.ex∨X.s₀.heap.objs.size≤b)∧b≠X.env.locals∧(∀ x c,X.env.cells.lookup x=some c->c≠b)∧∀ p∈X.pn++pins,p.1≠b):Inv X pins σ H' s':=by
 obtain⟨h',g',d',t',o'⟩:=s'
 have e:o'=s.os:=ho
 subst e
 exact I.call (g':=g') (t':=t') (d':=d') u hok hg hch
end
noncomputable abbrev XK:=Value->Option Addr->Hp->Prop
noncomputable abbrev St:=List (Option V)
noncomputable abbrev VK:=V->Hp->Prop
noncomputable abbrev TE:=St->Hp->VK->Prop
noncomputable abbrev TT:=St->Hp->(Bool->Hp->Prop)->Prop
noncomputable abbrev TA:=St->Hp->(List V->Hp->Prop)->Prop
structure Ends where
 nx:St->Hp->Prop
 rt:VK
 bk:St->Hp->Prop:=fun _ _=>False
 ct:St->Hp->Prop:=fun _ _=>False
noncomputable abbrev TS:=Ends->St->Hp->Prop
noncomputable def EP (X:Cx) (pins:List (Addr×Obj)) (σ:St) (Q:VK) (u:Value) (s':Shared):Prop:=∃ v H',Inv X pins σ H' s'∧RelV v u∧Q v H'
noncomputable def TP (X:Cx) (pins:List (Addr×Obj)) (σ:St) (Q:Bool->Hp->Prop) (b:Bool) (s':Shared):Prop:=∃ H',Inv X pins σ H' s'∧Q b H'
noncomputable def AP (X:Cx) (pins:List (Addr×Obj)) (σ:St) (Q:List V->Hp->Prop) (us:List Value) (s':Shared):Prop:=∃ vs H',Inv X pins σ H' s'∧Vals vs us∧Q vs H'
noncomputable def SP (X:Cx) (pins:List (Addr×Obj)) (D:Ends) (f:Flow) (s':Shared):Prop :=
 match f with
 | .next=>∃ σ' H',Inv X pins σ' H' s'∧D.nx σ' H'
 | .brk=>∃ σ' H',Inv X pins σ' H' s'∧D.bk σ' H'
 | .cont=>∃ σ' H',Inv X pins σ' H' s'∧D.ct σ' H'
 | .ret u=>∃ v σ' H',Inv X pins σ' H' s'∧RelV v u∧D.rt v H'
noncomputable def PE (X:Cx) (e:Expr) (t:TE):Prop :=
 ∀(pins:List (Addr×Obj)) (s:Shared) (σ:St) (H:Hp) (Q:VK),Inv X pins σ H s->t σ H Q->wpAny (model X.prog X.w) X.A (eval e X.env) (EP X pins σ Q) X.xe s
noncomputable def PT (X:Cx) (e:Expr) (t:TT):Prop :=
 ∀(pins:List (Addr×Obj)) (s:Shared) (σ:St) (H:Hp) (Q:Bool->Hp->Prop),Inv X pins σ H s->t σ H Q->wpAny (model X.prog X.w) X.A (isTrue e X.env (eval e X.env)) (TP X pins σ Q) X.xe s
noncomputable def PW (X:Cx) (e:Expr) (t:TT):Prop :=
 ∀(whole:Sem Value) (pins:List (Addr×Obj)) (s:Shared) (σ:St) (H:Hp) (Q:Bool->Hp->Prop),Inv X pins σ H s->t σ H Q->wpAny (model X.prog X.w) X.A (isTrue e X.env whole) (TP X pins σ Q) X.xe s
theorem PW.pt {X:Cx} {e:Expr} {t:TT} (h:PW X e t):PT X e t:=h _
noncomputable def PA (X:Cx) (es:List Expr) (t:TA):Prop :=
 ∀(pos:Pos) (pins:List (Addr×Obj)) (s:Shared) (σ:St) (H:Hp) (Q:List V->Hp->Prop),Inv X pins σ H s->t σ H Q->wpAny (model X.prog X.w) X.A (spliced (backTo pos (starEach es X.env))) (AP X pins σ Q) X.xe s
noncomputable def PS (X:Cx) (st:Stmt) (t:TS):Prop :=
 ∀(pins:List (Addr×Obj)) (s:Shared) (σ:St) (H:Hp) (D:Ends),Inv X pins σ H s->t D σ H->wpAny (model X.prog X.w) X.A (exec st X.env) (SP X pins D) X.xe s
noncomputable def PSs (X:Cx) (st:List Stmt) (t:TS):Prop :=
 ∀(pins:List (Addr×Obj)) (s:Shared) (σ:St) (H:Hp) (D:Ends),Inv X pins σ H s->t D σ H->wpAny (model X.prog X.w) X.A (execs st X.env) (SP X pins D) X.xe s
theorem thn {α:Type} {t:Sem α} {Q Q':α->Shared->Prop} {M:Model} {A:Around} {E:Value->Shared->Prop} {s:Shared} (h:wpAny M A t Q E s) (hQ:∀ a s,Q a s->Q' a s):wpAny M A t Q' E s:=wpAny_mono h hQ fun _ _ x=>x
end L2
namespace L2
open PySem PySem.Spec PyProof.Rows
section
variable {X:Cx}
noncomputable def tVar (i:Nat):TE:=fun σ H Q=>∃ v,σ[i]?=some (some v)∧Q v H
noncomputable def tC (v:V):TE:=fun _ H Q=>Q v H
theorem QkB {i:Nat} {x:Str} {pos:Pos} (hN:X.N[i]?=some x) (hv:Vis X.env.scope x) (hd:(x == ("__debug__" : Str))=false:=by decide) (hcd:(x == ("__classdict__" : Str))=false:=by decide):PE X (.Name x pos) (tVar i):=by
 intro pins s σ H Q I h
 obtain⟨v,e,h⟩:=h
 obtain⟨m,hn,hl⟩:=I.loc
 obtain⟨u,r,l⟩:=hl i x v hN e hv
 have fin:EP X pins σ Q u s:=⟨v,H,I,r,h⟩
 rcases l with⟨hk,hm⟩ | ⟨hk,c,hc,hcell⟩
 ·exact wpAny_Name (wpAny_loadName_local I.ok.kind hk hn hm fin) hd
 ·rcases hk with hk | hk
  ·exact wpAny_Name (wpAny_loadName_cell I.ok.kind hk hc hcell fin) hd
  ·exact wpAny_Name (wpAny_loadName_free I.ok.kind hk hc hcell fin hcd) hd
theorem QkC {i j pos}:PE X (.Constant (.int i) j pos) (tC (.int i)):=fun _ _ _ H _ I h=>wpAny_Constant_int ⟨.int i,H,I.tok _,⟨_,rfl⟩,h⟩
theorem Qme {b j pos}:PE X (.Constant (.bool b) j pos) (tC (.bl b)):=fun _ _ _ H _ I h=>Constant_bool ⟨.bl b,H,I,rfl,h⟩
theorem QkD {j pos}:PE X (.Constant .none j pos) (tC .non):=fun _ _ _ H _ I h=>Constant_none ⟨.non,H,I,rfl,h⟩
theorem QkE {x j pos}:PE X (.Constant (.str x) j pos) (tC (.str x)):=fun _ _ _ H _ I h=>Calls.Constant_str ⟨.str x,H,I.tok _,⟨_,rfl⟩,h⟩
noncomputable def Gl (X:Cx) (x:Str):Prop:=X.env.kindOf x=some .globalImplicit
theorem QaR {E:Value->Shared->Prop} {pins:List (Addr×Obj)} {s:Shared} {σ:St} {H:Hp} {x:Str} {u:Value} {pos:Pos} {Q:Value->Shared->Prop} (I:Inv X pins σ H s) (hg:Gl X x) (hm:X.mg x=some u) (h:Q u s)
  (hd:(x == ("__debug__" : Str))=false:=by decide):wpAny (model X.prog X.w) X.A (eval (.Name x pos) X.env) Q E s :=
 Calls.Name_function_global I.ok.kind hg (Calls.loadGlobal_global (by rw [I.ok.glob]; exact I.mod.glob.keeps I.bk) hm h) hd
theorem Qas {E:Value->Shared->Prop} {pins:List (Addr×Obj)} {s:Shared} {σ:St} {H:Hp} {x:Str} {u:Value} {pos:Pos} {Q:Value->Shared->Prop} (I:Inv X pins σ H s) (hg:Gl X x) (hm:X.mg x=none) (hv:bootBuiltins x=some u) (h:Q u s)
  (hn:x ≠ "__name__":=by decide) (hd:(x == ("__debug__" : Str))=false:=by decide):wpAny (model X.prog X.w) X.A (eval (.Name x pos) X.env) Q E s:=by
 obtain⟨mb,h1,h2⟩:=I.mod.blt
 exact Calls.Name_function_global I.ok.kind hg (Calls.loadGlobal_builtin (by rw [I.ok.glob]; exact I.mod.glob.keeps I.bk) hm (by rw [I.ok.blt]; exact h1.keeps I.bk) ((h2 x hn).trans hv) h) hd
theorem Qdz {x:Str} {v:V} {u:Value} {pos:Pos} (hg:Gl X x) (hm:X.mg x=some u) (r:RelV v u) (hd:(x == ("__debug__" : Str))=false:=by decide):PE X (.Name x pos) (tC v) :=
 fun _ _ _ H _ I h=>QaR I hg hm ⟨v,H,I,r,h⟩ hd
theorem QfP {x:Str} {v:V} {u:Value} {pos:Pos} (hg:Gl X x) (hm:X.mg x=none) (hv:bootBuiltins x=some u) (r:RelV v u) (hn:x ≠ "__name__":=by decide) (hd:(x == ("__debug__" : Str))=false:=by decide):PE X (.Name x pos) (tC v) :=
 fun _ _ _ H _ I h=>Qas I hg hm hv ⟨v,H,I,r,h⟩ hn hd
variable {a b:Expr} {ta tb:TE} {pos:Pos}
noncomputable def tB (t:TE):TT:=fun σ H Q=>t σ H fun x H1=>∃ c,x=.bl c∧Q c H1
theorem QkF {e:Expr} {t:TE} (h:PE X e t) (he:∀ whole,isTrue e X.env whole=(do let v ← whole; standAt e.pos; holding [v] (truthy v)):=by intro _; rfl):PT X e (tB t):=by
 intro pins s σ H Q I hw
 refine isTrue_plain (thn (h pins s σ H _ I hw) fun v s1 ⟨x,H1,I1,r1,q1⟩=>?_) (he _)
 obtain⟨d,rfl,q⟩:=q1
 cases r1
 exact wpAny_truthy_bool ⟨H1,I1,q⟩
variable {tA tB':TT} {rest:List Expr}
noncomputable def tAnd (t u:TT):TT:=fun σ H Q=>t σ H fun c H1=>if c=true then u σ H1 Q else Q false H1
noncomputable def tOr (t u:TT):TT:=fun σ H Q=>t σ H fun c H1=>if c=true then Q true H1 else u σ H1 Q
noncomputable def tNot (t:TT):TT:=fun σ H Q=>t σ H fun c H1=>Q (!c) H1
theorem Qjd (ha:PT X a tA):PW X (.BoolOp .And [a] pos) tA:=by
 intro wh pins s σ H Q I h
 refine isTrue_and (thn (ha pins s σ H Q I h) fun c s1 e=>?_)
 cases c with
 | true=>exact isTrue_and_nil e
 | false=>exact e
theorem QkG (ha:PT X a tA):PW X (.BoolOp .Or [a] pos) tA:=by
 intro wh pins s σ H Q I h
 refine isTrue_or (thn (ha pins s σ H Q I h) fun c s1 e=>?_)
 cases c with
 | false=>exact isTrue_or_nil e
 | true=>exact e
theorem QkH (ha:PT X a tA) (hb:PW X (.BoolOp .And (b::rest) pos) tB'):PW X (.BoolOp .And (a::b::rest) pos) (tAnd tA tB'):=by
 intro wh pins s σ H Q I h
 refine isTrue_and (thn (ha pins s σ H _ I h) fun c s1 ⟨H1,I1,q1⟩=>?_)
 cases c with
 | true=>exact hb wh pins s1 σ H1 Q I1 q1
 | false=>exact⟨H1,I1,q1⟩
theorem Qmf (ha:PT X a tA) (hb:PW X (.BoolOp .Or (b::rest) pos) tB'):PW X (.BoolOp .Or (a::b::rest) pos) (tOr tA tB'):=by
 intro wh pins s σ H Q I h
 refine isTrue_or (thn (ha pins s σ H _ I h) fun c s1 ⟨H1,I1,q1⟩=>?_)
 cases c with
 | true=>exact⟨H1,I1,q1⟩
 | false=>exact hb wh pins s1 σ H1 Q I1 q1
theorem QkI (ha:PT X a tA):PT X (.UnaryOp .Not a pos) (tNot tA):=by
 intro pins s σ H Q I h
 exact isTrue_not (ha pins s σ H (fun c H1=>Q (!c) H1) I h)
noncomputable def Qmg (ta tb:TE):TE:=fun σ H Q=>ta σ H fun x H1=>∃ c,x=.bl c∧if c=true then tb σ H1 Q else Q (.bl false) H1
noncomputable def Qmh (ta:TE):TE:=fun σ H Q=>ta σ H fun x H1=>∃ c,x=.bl c∧Q (.bl (!c)) H1
theorem QkJ {op} {t:TE} (h:PE X a t):PE X (.BoolOp op [a] pos) t:=fun pins s σ H Q I hw=>BoolOp_one (h pins s σ H Q I hw)
theorem QkK (ha:PE X a ta) (hb:PE X (.BoolOp .And (b::rest) pos) tb):PE X (.BoolOp .And (a::b::rest) pos) (Qmg ta tb):=by
 intro pins s σ H Q I h
 refine BoolOp_and (thn (ha pins s σ H _ I h) fun v s1 ⟨x,H1,I1,r1,q1⟩=>?_)
 obtain⟨c,rfl,q1⟩:=q1
 cases r1
 refine wpAny_truthy_bool ?_
 cases c with
 | true=>exact hb pins s1 σ H1 Q I1 q1
 | false=>exact⟨.bl false,H1,I1,rfl,q1⟩
theorem QkL (ha:PE X a ta):PE X (.UnaryOp .Not a pos) (Qmh ta):=by
 intro pins s σ H Q I h
 refine UnaryOp_ (thn (ha pins s σ H _ I h) fun v s1 ⟨x,H1,I1,r1,q1⟩=>?_)
 obtain⟨c,rfl,q1⟩:=q1
 cases r1
 exact not_of (wpAny_truthy_bool ⟨.bl (!c),H1,I1,rfl,q1⟩)
noncomputable def tIf (t:TT) (ta tb:TE):TE:=fun σ H Q=>t σ H fun c H1=>if c=true then ta σ H1 Q else tb σ H1 Q
theorem Qhp {c:Expr} (hc:PT X c tA) (ha:PE X a ta) (hb:PE X b tb):PE X (.IfExp c a b pos) (tIf tA ta tb):=by
 intro pins s σ H Q I h
 refine wpAny_IfExp (thn (hc pins s σ H _ I h) fun d s1 ⟨H1,I1,q1⟩=>?_)
 cases d with
 | true=>exact ha pins s1 σ H1 Q I1 q1
 | false=>exact hb pins s1 σ H1 Q I1 q1
end
end L2
namespace L2
open PySem PySem.Spec PyProof.Rows
noncomputable def SqL (K:PySem.W.Frag) (H:Hp) (a:Addr) (xs:List V):Prop :=
 Rd H a (.lst xs) ∨
  ∃(o:Obj) (its:Array Value) (n:Nat),K.lookup a=some o∧o.cls=.type "list" ∧ o.dict=none∧o.data=.seq its n∧its.size≤sizeLine∧Vals xs its.toList
noncomputable def SqT (K:PySem.W.Frag) (H:Hp) (a:Addr) (xs:List V):Prop :=
 Rd H a (.tup xs) ∨
  ∃(o:Obj) (its:Array Value) (n:Nat),K.lookup a=some o∧o.cls=.type "tuple" ∧ o.data=.seq its n∧its.size≤sizeLine∧Vals xs its.toList
noncomputable def absV:Value->Option V
 | .none=>some .non
 | .bool b=>some (.bl b)
 | .int i _=>some (.int i)
 | .str x _=>some (.str x)
 | .bytes b _=>some (.byt b)
 | .float b _=>some (.flt b)
 | .ref a=>some (.ref a)
 | .type n=>some (.ty n)
 | _=>none
theorem RelV.abs {x:V} {u:Value} (r:RelV x u):absV u=some x:=by
 cases x with
 | non=>cases r; rfl
 | bl _=>cases r; rfl
 | int _=>obtain⟨t,rfl⟩:=r; rfl
 | str _=>obtain⟨t,rfl⟩:=r; rfl
 | byt _=>obtain⟨t,rfl⟩:=r; rfl
 | flt _=>obtain⟨t,rfl⟩:=r; rfl
 | ref _=>cases r; rfl
 | ty _=>cases r; rfl
theorem RelV.inj {x y:V} {u:Value} (r:RelV x u) (q:RelV y u):x=y:=Option.some.inj (r.abs.symm.trans q.abs)
theorem Vals.inj:∀ {xs ys:List V} {us:List Value},Vals xs us->Vals ys us->xs=ys
 | _,_,_,.nil,.nil=>rfl
 | _,_,_,.cons r t,.cons r' t'=>by rw [r.inj r',Vals.inj t t']
section
variable {X:Cx} {pins:List (Addr×Obj)} {σ:St} {H:Hp} {s:Shared} {a:Addr} {xs ys:List V}
theorem SqL.of {K:PySem.W.Frag} (h:H a=some (.lst xs)):SqL K H a xs:=.inl (.inl h)
theorem SqT.of {K:PySem.W.Frag} (h:H a=some (.tup xs)):SqT K H a xs:=.inl (.inl h)
theorem Inv.list (I:Inv X pins σ H s) (h:SqL X.K H a xs):∃ its:List Value,Vals xs its∧PlainL s.heap a its.toArray∧xs.length≤sizeLine:=by
 rcases h with h | ⟨o,its,n,hk,hc,hd,hs,hz,r⟩
 ·obtain⟨z,its,n,r,e⟩:=h.ok I.hok
  exact⟨its,r,⟨_,n,e,rfl,rfl,rfl⟩,z⟩
 ·refine⟨its.toList,r,⟨o,n,I.kIn a o hk,hc,hd,by simpa using hs⟩,?_⟩
  have e:=r.length
  simp only [Array.length_toList] at e
  omega
theorem Inv.tuple (I:Inv X pins σ H s) (h:SqT X.K H a xs):∃ its:List Value,Vals xs its∧IsTup s.heap a its.toArray∧xs.length≤sizeLine:=by
 rcases h with h | ⟨o,its,n,hk,hc,hs,hz,r⟩
 ·obtain⟨z,its,r,p⟩:=h.ok I.hok
  exact⟨its,r,p,z⟩
 ·refine⟨its.toList,r,⟨o,I.kIn a o hk,hc,n,by simpa using hs⟩,?_⟩
  have e:=r.length
  simp only [Array.length_toList] at e
  omega
theorem Inv.list_inj (I:Inv X pins σ H s) (h:SqL X.K H a xs) (h':SqL X.K H a ys):xs=ys:=by
 obtain⟨its,r,⟨o,n,e,_,_,d⟩,_⟩:=I.list h
 obtain⟨its',r',⟨o',n',e',_,_,d'⟩,_⟩:=I.list h'
 rw [e] at e'; cases e'
 rw [d] at d'
 injection d' with d1 _
 have:its=its':=by simpa using congrArg Array.toList d1
 subst this
 exact r.inj r'
theorem Inv.tuple_inj (I:Inv X pins σ H s) (h:SqT X.K H a xs) (h':SqT X.K H a ys):xs=ys:=by
 obtain⟨its,r,⟨o,e,_,n,d⟩,_⟩:=I.tuple h
 obtain⟨its',r',⟨o',e',_,n',d'⟩,_⟩:=I.tuple h'
 rw [e] at e'; cases e'
 rw [d] at d'
 injection d' with d1 _
 have:its=its':=by simpa using congrArg Array.toList d1
 subst this
 exact r.inj r'
end
noncomputable abbrev Cx.wish (X:Cx) (E:Value->Shared->Prop):Cx:={ X with xe:=E }
noncomputable abbrev Cx.nox (X:Cx):Cx:=X.wish fun _ _=>False
theorem Cx.Ok.wish {X:Cx} (ok:X.Ok) (E:Value->Shared->Prop):(X.wish E).Ok :=
 ⟨ok.mod,ok.kind,ok.glob,ok.blt,ok.above,ok.inj,ok.has,ok.cab,ok.hd,ok.frames,ok.stk,ok.exf,ok.bs,ok.bsz,ok.noex,ok.exfs,ok.funs,ok.frf⟩
theorem Cx.Ok.unwish {X:Cx} {E:Value->Shared->Prop} (ok:(X.wish E).Ok):X.Ok :=
 ⟨ok.mod,ok.kind,ok.glob,ok.blt,ok.above,ok.inj,ok.has,ok.cab,ok.hd,ok.frames,ok.stk,ok.exf,ok.bs,ok.bsz,ok.noex,ok.exfs,ok.funs,ok.frf⟩
section
variable {X:Cx} {pins:List (Addr×Obj)} {σ:St} {H:Hp} {s:Shared} {E:Value->Shared->Prop}
theorem Inv.wish (I:Inv X pins σ H s) (E:Value->Shared->Prop):Inv (X.wish E) pins σ H s:=⟨I.ok.wish E,I.os,I.bare,I.base,I.loc,I.cell,I.free,I.freeC,I.pin,I.hok,I.len⟩
theorem Inv.unwish (I:Inv (X.wish E) pins σ H s):Inv X pins σ H s:=⟨I.ok.unwish,I.os,I.bare,I.base,I.loc,I.cell,I.free,I.freeC,I.pin,I.hok,I.len⟩
theorem SP.unwish {D:Ends} {f:Flow} {s':Shared} (h:SP (X.wish E) pins D f s'):SP X pins D f s':=by
 cases f with
 | next=>obtain⟨σ',H',I,q⟩:=h; exact⟨σ',H',I.unwish,q⟩
 | brk=>obtain⟨σ',H',I,q⟩:=h; exact⟨σ',H',I.unwish,q⟩
 | cont=>obtain⟨σ',H',I,q⟩:=h; exact⟨σ',H',I.unwish,q⟩
 | ret u=>obtain⟨v,σ',H',I,r,q⟩:=h; exact⟨v,σ',H',I.unwish,r,q⟩
end
section
variable {X:Cx} {st:Stmt} {rest:List Stmt} {t u:TS} {e:Expr} {te:TE} {pos:Pos}
noncomputable def Qmi:TS:=fun D σ H=>D.nx σ H
noncomputable def tSeq (t u:TS):TS:=fun D σ H=>t { D with nx:=u D } σ H
theorem QfQ:PSs X [] Qmi:=fun _ _ σ H _ I h=>wpAny_execs_nil ⟨σ,H,I,h⟩
theorem Qhq (h1:PS X st t) (h2:PSs X rest u):PSs X (st::rest) (tSeq t u):=by
 intro pins s σ H D I h
 refine wpAny_execs_cons (thn (h1 pins s σ H { D with nx:=u D } I h) fun f s1 q=>?_)
 cases f with
 | next =>
  obtain⟨σ',H',I',q⟩:=q
  exact h2 pins s1 σ' H' D I' q
 | ret v=>exact q
 | brk=>exact q
 | cont=>exact q
theorem Qje (h1:PS X st t):PSs X [st] t:=by
 intro pins s σ H D I h
 refine wpAny_execs_cons (thn (h1 pins s σ H D I h) fun f s1 q=>?_)
 cases f with
 | next=>exact wpAny_execs_nil q
 | ret v=>exact q
 | brk=>exact q
 | cont=>exact q
theorem Inv.quiet {pins:List (Addr×Obj)} {σ:St} {H:Hp} {s:Shared} (I:Inv X pins σ H s):interactive X.env=false:=by simp [interactive,I.ok.kind]
noncomputable def Qmj (te:TE):TS:=fun D σ H=>te σ H fun _ H1=>D.nx σ H1
theorem Qjf (he:PE X e te) (hs:swapsWith e none pos.line X.env=pure false:=by rfl):PS X (.Expr e pos) (Qmj te):=by
 intro pins s σ H D I h
 exact wpAny_Expr_any (thn (he pins s σ H _ I h) fun v s1 ⟨x,H1,I1,r1,q1⟩=>⟨σ,H1,I1,q1⟩) I.quiet hs
noncomputable def tRet (te:TE):TS:=fun D σ H=>te σ H D.rt
theorem QkM (he:PE X e te):PS X (.Return (some e) pos) (tRet te):=by
 intro pins s σ H D I h
 exact wpAny_Return_some (thn (he pins s σ H _ I h) fun v s1 ⟨x,H1,I1,r1,q1⟩=>⟨x,σ,H1,I1,r1,q1⟩)
noncomputable def tIfS (c:TT) (t u:TS):TS:=fun D σ H=>c σ H fun b H1=>if b=true then t D σ H1 else u D σ H1
theorem Qmk {c:Expr} {a b:List Stmt} {tc:TT} (hc:PT X c tc) (ha:PSs X a t) (hb:PSs X b u):PS X (.If c a b pos) (tIfS tc t u):=by
 intro pins s σ H D I h
 refine wpAny_If (thn (hc pins s σ H _ I h) fun d s1 ⟨H1,I1,q1⟩=>?_)
 cases d with
 | true=>exact ha pins s1 σ H1 D I1 q1
 | false=>exact hb pins s1 σ H1 D I1 q1
noncomputable def QkN:TS:=fun _ _ _=>False
theorem Qhr:PS X st QkN:=fun _ _ _ _ _ _ h=>h.elim
end
noncomputable abbrev TG:=V->St->Hp->(St->Hp->Prop)->Prop
noncomputable abbrev TGs:=List V->St->Hp->(St->Hp->Prop)->Prop
noncomputable def PG (X:Cx) (target:Expr) (t:TG):Prop :=
 ∀(pins:List (Addr×Obj)) (s:Shared) (σ:St) (H:Hp) (v:V) (u:Value) (Q:St->Hp->Prop),Inv X pins σ H s->RelV v u->t v σ H Q ->
  wpAny (model X.prog X.w) X.A (assign target X.env u) (fun _ s'=>∃ σ' H',Inv X pins σ' H' s'∧Q σ' H') X.xe s
noncomputable def PGs (X:Cx) (ts:List Expr) (t:TGs):Prop :=
 ∀(pins:List (Addr×Obj)) (s:Shared) (σ:St) (H:Hp) (vs:List V) (us:List Value) (Q:St->Hp->Prop),Inv X pins σ H s->Vals vs us->t vs σ H Q ->
  wpAny (model X.prog X.w) X.A (assignInOrder ((assignEach ts X.env).map (·.2)) us) (fun _ s'=>∃ σ' H',Inv X pins σ' H' s'∧Q σ' H') X.xe s
noncomputable abbrev TSet:=V->V->V->Hp->(Hp->Prop)->Prop
noncomputable def PSet (X:Cx) (t:TSet):Prop :=
 ∀(pins:List (Addr×Obj)) (s:Shared) (σ:St) (H:Hp) (o i v:V) (ov iv u:Value) (Q:Hp->Prop),Inv X pins σ H s->RelV o ov->RelV i iv->RelV v u->t o i v H Q ->
  wpAny (model X.prog X.w) X.A (setItem ov iv u) (fun _ s'=>∃ H',Inv X pins σ H' s'∧Q H') X.xe s
section
variable {X:Cx} {pos:Pos}
noncomputable def QkO (i:Nat):TG:=fun v σ H Q=>Q (σ.set i (some v)) H
theorem Qjg {i:Nat} {x:Str} (hN:X.N.Nodup) (hi:X.N[i]?=some x) (hx:Loc X.env.scope x) (hf:X.fn x=true∨X.env.scope.names.lookup x=some .local:=by first | exact .inl rfl | exact .inr rfl | assumption):PG X (.Name x pos) (QkO i):=by
 intro pins s σ H v u Q I r h
 exact wpAny_assign_Name (QbY I hN hi hx r (fun s' I'=>⟨_,H,I',h⟩) hf)
noncomputable def gNil:TGs:=fun vs σ H Q=>vs=[]∧Q σ H
noncomputable def Qml (t:TG) (u:TGs):TGs:=fun vs σ H Q=>∃ v r,vs=v::r∧t v σ H fun σ' H'=>u r σ' H' Q
theorem Qjh:PGs X [] gNil:=by
 intro pins s σ H vs us Q I r h
 obtain⟨e,h⟩:=h
 subst e
 cases r
 exact assignInOrder_nil ⟨σ,H,I,h⟩
theorem Qhs {e:Expr} {es:List Expr} {t:TG} {u:TGs} (h1:PG X e t) (h2:PGs X es u)
  (hs:(assignEach (e::es) X.env).map (·.2)=assign e X.env::(assignEach es X.env).map (·.2):=by rfl):PGs X (e::es) (Qml t u):=by
 intro pins s σ H vs us Q I r h
 obtain⟨v,vr,e1,h⟩:=h
 subst e1
 cases r with
 | cons r rr =>
  rw [hs]
  refine assignInOrder_cons (thn (h1 pins s σ H _ _ _ I r h) fun _ s1 ⟨σ1,H1,I1,q1⟩=>?_)
  exact h2 pins s1 σ1 H1 _ _ Q I1 rr q1
noncomputable def gTup (K:PySem.W.Frag) (n:Nat) (t:TGs):TG:=fun v σ H Q=>∃ a xs,v=.ref a∧SqT K H a xs∧xs.length=n∧t xs σ H Q
theorem QkP {es:List Expr} {k:Nat} {t:TGs} {n:Nat} (hc:X.calm=true) (h:PGs X es t)
  (hn:(assignEach es X.env).length=n:=by rfl) (hst:(assignEach es X.env).findIdx? (·.1)=none:=by rfl):PG X (.Tuple es k pos) (gTup X.K n t):=by
 intro pins s σ H v u Q I r hw
 obtain⟨a,xs,e1,hq,hl,hw⟩:=hw
 subst e1
 cases r
 obtain⟨its,rv,ht,hz⟩:=I.tuple hq
 refine assign_Tuple_tuple (I.ok.hd hc) ht (by simp [hn,← hl,rv.length]) hst fun h' hx=>?_
 have I1:Inv X pins σ H { s with heap:=h' }:=I.kept (t':=s.toks) fun b o e=>hx b o (Nat.ne_of_lt (Heap.lt_size e)) e
 exact h pins _ σ H xs _ Q I1 (by simpa using rv) hw
noncomputable def gSub (to ti:TE) (t:TSet):TG:=fun v σ H Q=>to σ H fun o H1=>ti σ H1 fun i H2=>t o i v H2 fun H3=>Q σ H3
theorem QiI {o i:Expr} {to ti:TE} {t:TSet} (ho:PE X o to) (hi:PE X i ti) (hs:PSet X t)
  (ha:∀ v,assign (.Subscript o i pos) X.env v=(do
   let ov ← holding [v] (eval o X.env)
   let iv ← holding [v,ov] (eval i X.env)
   standAt pos
   holding [v,ov,iv] (setItem ov iv v)
   release [v,ov,iv] []):=by intro _; rfl):PG X (.Subscript o i pos) (gSub to ti t):=by
 intro pins s σ H v u Q I r h
 rw [ha]
 refine wpAny_bind (wpAny_holding (thn (ho pins s σ H _ I h) fun ov s1 ⟨x,H1,I1,r1,q1⟩=>?_))
 refine wpAny_bind (wpAny_holding (thn (hi pins s1 σ H1 _ I1 q1) fun iv s2 ⟨y,H2,I2,r2,q2⟩=>?_))
 refine wpAny_bind (wpAny_standAt (wpAny_bind (wpAny_holding (thn (hs pins s2 σ H2 x y v ov iv u _ I2 r1 r2 r q2) fun _ s3 ⟨H3,I3,q3⟩=>?_))))
 exact wpAny_release ⟨σ,H3,I3,q3⟩
noncomputable def tAsg (te:TE) (g:TG):TS:=fun D σ H=>te σ H fun x H1=>g x σ H1 D.nx
theorem QfR {tg e:Expr} {te:TE} {g:TG} (he:PE X e te) (hg:PG X tg g) (hs:swapsWithSole [tg] e pos.line X.env=pure false:=by rfl) (hw:swappedStores [tg] e X.env=pure none:=by rfl)
  (h1:(assignEach [tg] X.env).map (·.2)=[assign tg X.env]:=by rfl):PS X (.Assign [tg] e pos) (tAsg te g):=by
 intro pins s σ H D I h
 refine wpAny_Assign_stores (thn (he pins s σ H _ I h) fun v s1 ⟨x,H1,I1,r1,q1⟩=>?_) hs hw
 rw [h1]
 exact thn (hg pins s1 σ H1 x v _ I1 r1 q1) fun _ s2 q=>q
theorem QkQ {i:Nat} {x:Str} {e:Expr} {te:TE} {pos':Pos} (hN:X.N.Nodup) (hi:X.N[i]?=some x) (hx:Loc X.env.scope x) (he:PE X e te) (hs:swapsWith e (some (.Name x pos')) pos.line X.env=pure false:=by rfl) (hf:X.fn x=true∨X.env.scope.names.lookup x=some .local:=by first | exact .inl rfl | exact .inr rfl | assumption) :
  PS X (.Assign [.Name x pos'] e pos) (tAsg te (QkO i)):=by
 intro pins s σ H D I h
 refine wpAny_Assign_Name (thn (he pins s σ H _ I h) fun v s1 ⟨y,H1,I1,r1,q1⟩=>?_) hs
 exact QbY I1 hN hi hx r1 (fun s2 I2=>⟨_,H1,I2,q1⟩) hf
end
section
variable {X:Cx} {pos:Pos}
noncomputable def QkR (c:TT) (tb:TS):TS:=fun D σ H=>∃ W:Nat->St->Hp->Prop,(∃ m,W m σ H)∧∀ m σ H,W m σ H ->
 c σ H fun b H1=>if b=true then ∃ N:St->Hp->Prop,(∀ σ' H',N σ' H'->∃ m',m'<m∧W m' σ' H')∧tb { D with nx:=N,ct:=N,bk:=D.nx } σ H1 else D.nx σ H1
theorem Qht {c:Expr} {body:List Stmt} {tc:TT} {tb:TS} (hp:PassesOwn (model X.prog X.w) X.A X.env X.xe) (hc:PT X c tc) (hb:PSs X body tb):PS X (.While c body [] pos) (QkR tc tb):=by
 intro pins s σ H D I h
 obtain⟨W,⟨m0,w0⟩,turn⟩:=h
 refine wpAny_While (codeAny_whileLoop (fun n s'=>∃ σ' H',Inv X pins σ' H' s'∧W n σ' H') ?_ m0 ⟨σ,H,I,w0⟩)
 rintro n s1 ⟨σ1,H1,I1,w1⟩
 refine wpAny_passesOwn hp (thn (hc pins s1 σ1 H1 _ I1 (turn n σ1 H1 w1)) fun b s2 ⟨H2,I2,q2⟩=>?_)
 cases b with
 | true =>
  obtain⟨N,hN,q2⟩:=q2
  rw [if_pos rfl]
  refine wpAny_passesOwn hp (thn (hb pins s2 σ1 H2 _ I2 q2) fun f s3 q3=>?_)
  cases f with
  | next =>
   obtain⟨σ3,H3,I3,n3⟩:=q3
   obtain⟨m',hm,w3⟩:=hN σ3 H3 n3
   exact⟨m',hm,σ3,H3,I3,w3⟩
  | cont =>
   obtain⟨σ3,H3,I3,n3⟩:=q3
   obtain⟨m',hm,w3⟩:=hN σ3 H3 n3
   exact⟨m',hm,σ3,H3,I3,w3⟩
  | brk=>exact q3
  | ret v=>exact q3
 | false =>
  rw [if_neg Bool.false_ne_true]
  exact wpAny_execs_nil ⟨σ1,H2,I2,q2⟩
end
structure It where
 go:Nat->Hp->Prop
 yld:Nat->Hp->V->Hp->Prop
 stop:Nat->Hp->Prop
noncomputable def FpOk (X:Cx) (pins:List (Addr×Obj)) (H:Hp) (b:Addr):Prop :=
 H b=none∧b≠X.env.locals∧b∉X.fs∧(b∈X.ex∨X.s₀.heap.objs.size≤b)∧(∀ x c,X.env.cells.lookup x=some c->c≠b)∧∀ p∈X.pn++pins,p.1≠b
theorem Inv.fpOk {X:Cx} {pins:List (Addr×Obj)} {σ:St} {H H':Hp} {s:Shared} {b:Addr} (I:Inv X pins σ H s) (hb:s.heap.objs.size≤b) (hn:H' b=none):FpOk X pins H' b:=by
 refine⟨hn,Nat.ne_of_gt (Nat.lt_of_lt_of_le I.lt hb),I.nofs hb,.inr (Nat.le_trans I.sz hb),fun x c e z=>?_,fun p hp z=>?_⟩
 ·obtain⟨v,q⟩:=I.cell x c e
  exact absurd (Nat.lt_of_lt_of_le q.lt (by rw [z]; exact hb)) (Nat.lt_irrefl _)
 ·exact absurd (Nat.lt_of_lt_of_le (Heap.lt_size (I.pin p hp).1) (by rw [z]; exact hb)) (Nat.lt_irrefl _)
structure Turn (P:Program) (w:World) (K:PySem.W.Frag) (tg:Expr) (J:It) (fp:List Addr) (it:Addr) (tn:Nat->Heap->Prop):Prop where
 mem:it∈fp
 obj:∀ i h,tn i h->∀ b∈fp,∃ o,h.get? b=some o∧∀ v,o.data≠.cell v
 keep:∀ i h h',tn i h->(∀ b∈fp,∀ o,h.get? b=some o->h'.get? b=some o)->tn i h'
 item:∀(X:Cx),X.prog=P->X.w=w->X.K=K->X.calm=true->∀(i:Nat) (pins:List (Addr×Obj)) (s:Shared) (σ:St) (H:Hp) (E:Value->Shared->Prop),Inv X pins σ H s->(∀ b∈fp,FpOk X pins H b)->tn i s.heap->J.go i H ->
  wpAny (model P w) X.A (pyNext (.ref it)) (fun r s1=>∃ u,r=some u ∧
   wpAny (model P w) X.A (letOwnedTupleGo tg (.ref it) u) (fun _ s2=>∃ x H',Inv X pins σ H' s2∧RelV x u∧J.yld i H x H'∧tn (i+1) s2.heap∧∀ b∈fp,H' b=none) E s1) E s
 done:∀(X:Cx),X.prog=P->X.w=w->X.K=K->X.calm=true->∀(i:Nat) (pins:List (Addr×Obj)) (s:Shared) (σ:St) (H:Hp) (E:Value->Shared->Prop),Inv X pins σ H s->(∀ b∈fp,FpOk X pins H b)->tn i s.heap->J.stop i H ->
  wpAny (model P w) X.A (pyNext (.ref it)) (fun r s1=>r=none∧Inv X pins σ H s1) E s
 self:∀(A:Around) (i:Nat) (s:Shared) (Q:Value->Shared->Prop) (E:Value->Shared->Prop),tn i s.heap->Q (.ref it) s->wpAny (model P w) A (pyIter (.ref it)) Q E s
noncomputable abbrev TI:=St->Hp->(It->Hp->Prop)->Prop
noncomputable def PIE (X:Cx) (pins:List (Addr×Obj)) (σ:St) (tg:Expr) (R:It->Hp->Prop) (itv:Value) (s2:Shared):Prop :=
 ∃(it:Addr) (fp:List Addr) (tn:Nat->Heap->Prop) (J:It) (H':Hp),itv=.ref it∧Inv X pins σ H' s2∧Turn X.prog X.w X.K tg J fp it tn∧tn 0 s2.heap∧(∀ b∈fp,FpOk X pins H' b)∧R J H'
noncomputable def PI (X:Cx) (tg iter:Expr) (wi:TI):Prop :=
 ∀(pins:List (Addr×Obj)) (s:Shared) (σ:St) (H:Hp) (R:It->Hp->Prop),Inv X pins σ H s->wi σ H R ->
  wpAny (model X.prog X.w) X.A (eval iter X.env) (fun v s1=>wpAny (model X.prog X.w) X.A (pyIter v) (PIE X pins σ tg R) X.xe s1) X.xe s
theorem Qhu {M:Model} {A:Around} {E:Value->Shared->Prop} {s:Shared} {tg:Expr} {it:Addr} {u:Value} {o:Obj} {n:String} {vs:Array Value} {Q:Unit->Shared->Prop} (ho:s.heap.get? it=some o) (hc:o.cls=.type n) (hd:o.data=.fields vs)
    (hn:["enumerate", "zip", "dict_itemiterator", "dict_reverseitemiterator", "odict_iterator", "itertools.zip_longest", "itertools.pairwise"].contains n=false) (hQ:Q () s):wpAny M A (letOwnedTupleGo tg (.ref it) u) Q E s:=by
  unfold letOwnedTupleGo
  cases tg <;> first
    | exact wpAny_pure hQ
    | (cases u <;> first
        | exact wpAny_pure hQ
        | (refine wpAny_bind (wpAny_load ho ?_)
           rw [hc,hd]
           show wpAny M A (if (["enumerate", "zip", "dict_itemiterator", "dict_reverseitemiterator", "odict_iterator", "itertools.zip_longest", "itertools.pairwise"].contains n && vs[0]? == some (rawInt _))=true then _ else _) Q E s
           rw [if_neg (by intro h; rw [hn,Bool.false_and] at h; cases h)]
           exact wpAny_pure hQ))
noncomputable def Itl (K:PySem.W.Frag) (a:Addr):It :=
 ⟨fun i H=>∃ xs x,SqL K H a xs∧xs[i]?=some x,fun i H x H'=>H'=H∧∀ xs,SqL K H a xs->xs[i]?=some x,fun i H=>∃ xs,SqL K H a xs∧xs.length≤i⟩
noncomputable def Itt (K:PySem.W.Frag) (a:Addr):It :=
 ⟨fun i H=>∃ xs x,SqT K H a xs∧xs[i]?=some x,fun i H x H'=>H'=H∧∀ xs,SqT K H a xs->xs[i]?=some x,fun i H=>∃ xs,SqT K H a xs∧xs.length≤i⟩
noncomputable def Itr (lo:Int) (n:Nat):It:=⟨fun i _=>i<n,fun i H x H'=>H'=H∧x=.int (lo+i),fun i _=>n≤i⟩
theorem QfS {P:Program} {w:World} {K:PySem.W.Frag} {tg:Expr} (a it:Addr):Turn P w K tg (Itl K a) [it] it (fun i h=>h.IsListIter it a i) where
 mem:=by simp
 obj:=fun i h st b hb=>by
  have e:b=it:=by simpa using hb
  subst e
  obtain⟨o,e,c,d⟩:=st
  exact⟨o,e,fun v z=>by rw [d] at z; cases z⟩
 keep:=fun i h h' st k=>st.at fun o e=>k it (by simp) o e
 item:=by
  intro X hP hw hK hc i pins s σ H E I hf st hg
  subst hP hw hK
  obtain⟨xs,x,hq,hx⟩:=hg
  obtain⟨its,rv,p,hz⟩:=I.list hq
  obtain⟨u,hu,ru⟩:=rv.get hx
  obtain⟨f0,f1,f2,f3,f4,f5⟩:=hf it (by simp)
  refine wpAny_pyNext_list_item st p.isList (x:=u) (by simpa using hu) fun h' st' sb=>?_
  have I1:Inv X pins σ H { s with heap:=h' }:=I.turned (t':=s.toks) (fun b o hb e=>(sb.2 b hb).trans e) f0 f1 f3 f4 f5
  obtain⟨o,e,c,d⟩:=id st'
  exact⟨u,rfl,Qhu (s:={ s with heap:=h' }) e c d (by decide) ⟨x,H,I1,ru,⟨rfl,fun ys hy=>by rw [I.list_inj hy hq]; exact hx⟩,st',fun b hb=>(hf b hb).1⟩⟩
 done:=by
  intro X hP hw hK hc i pins s σ H E I hf st hg
  subst hP hw hK
  obtain⟨xs,hq,hx⟩:=hg
  obtain⟨its,rv,p,hz⟩:=I.list hq
  obtain⟨f0,f1,f2,f3,f4,f5⟩:=hf it (by simp)
  have hl:=rv.length
  exact wpAny_pyNext_list_end (I.ok.hd hc) st p.isList (by simp; omega) fun h' eb=>⟨rfl,I.turned (t':=s.toks) (fun b o hb e=>eb b o hb e) f0 f1 f3 f4 f5⟩
 self:=fun _ _ _ _ _ st h=>wpAny_pyIter_listiter st h
theorem QeZ {P:Program} {w:World} {K:PySem.W.Frag} {tg:Expr} (a it:Addr):Turn P w K tg (Itt K a) [it] it (fun i h=>h.IsTupleIter it a i) where
 mem:=by simp
 obj:=fun i h st b hb=>by
  have e:b=it:=by simpa using hb
  subst e
  obtain⟨o,e,c,d⟩:=st
  exact⟨o,e,fun v z=>by rw [d] at z; cases z⟩
 keep:=fun i h h' st k=>st.at fun o e=>k it (by simp) o e
 item:=by
  intro X hP hw hK hc i pins s σ H E I hf st hg
  subst hP hw hK
  obtain⟨xs,x,hq,hx⟩:=hg
  obtain⟨its,rv,p,hz⟩:=I.tuple hq
  obtain⟨u,hu,ru⟩:=rv.get hx
  obtain⟨f0,f1,f2,f3,f4,f5⟩:=hf it (by simp)
  refine wpAny_pyNext_tuple_item st (show s.heap.IsTuple a its.toArray from p) (x:=u) (by simpa using hu) fun h' st' sb=>?_
  have I1:Inv X pins σ H { s with heap:=h' }:=I.turned (t':=s.toks) (fun b o hb e=>(sb.2 b hb).trans e) f0 f1 f3 f4 f5
  obtain⟨o,e,c,d⟩:=id st'
  exact⟨u,rfl,Qhu (s:={ s with heap:=h' }) e c d (by decide) ⟨x,H,I1,ru,⟨rfl,fun ys hy=>by rw [I.tuple_inj hy hq]; exact hx⟩,st',fun b hb=>(hf b hb).1⟩⟩
 done:=by
  intro X hP hw hK hc i pins s σ H E I hf st hg
  subst hP hw hK
  obtain⟨xs,hq,hx⟩:=hg
  obtain⟨its,rv,p,hz⟩:=I.tuple hq
  obtain⟨f0,f1,f2,f3,f4,f5⟩:=hf it (by simp)
  have hl:=rv.length
  exact wpAny_pyNext_tuple_end (I.ok.hd hc) st (show s.heap.IsTuple a its.toArray from p) (by simp; omega) fun h' eb=>⟨rfl,I.turned (t':=s.toks) (fun b o hb e=>eb b o hb e) f0 f1 f3 f4 f5⟩
 self:=fun _ _ _ _ _ st h=>wpAny_pyIter_tupleiter st h
theorem Qe0 {P:Program} {w:World} {K:PySem.W.Frag} {tg:Expr} (it:Addr) (lo:Int) (n:Nat):Turn P w K tg (Itr lo n) [it] it (fun i h=>IsRangeIter h it (lo+(i:Nat)*1) ((n:Int) - (i:Nat)) 1) where
 mem:=by simp
 obj:=fun i h st b hb=>by
  have e:b=it:=by simpa using hb
  subst e
  exact⟨_,st,fun v z=>by
   have z':Data.fields _=Data.cell v:=z
   cases z'⟩
 keep:=fun i h h' st k=>k it (by simp) _ st
 item:=by
  intro X hP hw hK hc i pins s σ H E I hf st hg
  subst hP hw hK
  obtain⟨f0,f1,f2,f3,f4,f5⟩:=hf it (by simp)
  have W:=Walks.range (prog:=X.prog) (w:=X.w) (I.ok.hd hc) it lo 1 n
  refine W.item i s _ _ hg st fun v h' tk hv st' kk=>?_
  obtain⟨t,rfl⟩:=hv
  have I1:Inv X pins σ H { s with heap:=h',toks:=tk }:=I.turned (fun b o hb e=>kk b o (by simpa using hb) e) f0 f1 f3 f4 f5
  refine⟨_,rfl,Qhu (s:={ s with heap:=h',toks:=tk }) (n:="range_iterator") st' rfl rfl (by decide) ⟨.int (lo+i),H,I1,⟨t,?_⟩,⟨rfl,rfl⟩,st',fun b hb=>(hf b hb).1⟩⟩
  rw [Int.mul_one]
 done:=by
  intro X hP hw hK hc i pins s σ H E I hf st hg
  subst hP hw hK
  obtain⟨f0,f1,f2,f3,f4,f5⟩:=hf it (by simp)
  exact wpAny_pyNext_range_end (I.ok.hd hc) st (by have:n≤i:=hg; omega) fun h' eb=>⟨rfl,I.turned (t':=s.toks) (fun b o hb e=>eb b o hb e) f0 f1 f3 f4 f5⟩
 self:=fun _ _ _ _ _ st h=>wpAny_pyIter_rangeiter st h
end L2
namespace L2
open PySem PySem.Spec PyProof.Rows
section
variable {X:Cx} {tg:Expr}
theorem Qhv {pins:List (Addr×Obj)} {σ:St} {H:Hp} {s:Shared} {R:It->Hp->Prop} {E:Value->Shared->Prop} {lo hi:Int} {t u v:Tok} {tk:Nat} (I:Inv X pins σ H s) (h1:-(2 ^ 62)≤lo) (h2:lo<2 ^ 62) (h3:-(2 ^ 62)≤hi) (h4:hi<2 ^ 62)
  (q:R (Itr lo (hi - lo).toNat) H):wpAny (model X.prog X.w) X.A (pyIter (.ref s.heap.objs.size)) (PIE X pins σ tg R) E { s with heap:=s.heap.push { cls:=.type "range",data:=.fields #[.int lo t,.int hi u,.int 1 v] },toks:=tk }:=by
 refine wpAny_pyIter_range (IsRange.new ..) (small_one h1 h2 h3 h4) ?_
 have I1:Inv X pins σ H { s with heap:=s.heap.push { cls:=.type "range",data:=.fields #[.int lo t,.int hi u,.int 1 v] },toks:=tk }:=I.kept fun b o e=>Heap.get?_push_of_some _ e
 refine⟨(s.heap.push { cls:=.type "range",data:=.fields #[.int lo t,.int hi u,.int 1 v] }).objs.size,[(s.heap.push { cls:=.type "range",data:=.fields #[.int lo t,.int hi u,.int 1 v] }).objs.size],_,_,H,rfl,
  I1.kept (t':=tk) fun b o e=>Heap.get?_push_of_some _ e,Qe0 _ lo (hi - lo).toNat,?_,fun b hb=>?_,q⟩
 ·have e1:lo+((0:Nat):Int)*1=lo:=by simp
  have e2:(((hi - lo).toNat:Nat):Int) - ((0:Nat):Int)=Builtin.Range.rangeSize lo hi 1:=by rw [rangeSize_one]; split <;> omega
  show IsRangeIter _ _ (lo+((0:Nat):Int)*1) ((((hi - lo).toNat:Nat):Int) - ((0:Nat):Int)) 1
  rw [e1,e2]
  exact Heap.get?_push_size _ rfl
 ·have e:b=(s.heap.push { cls:=.type "range",data:=.fields #[.int lo t,.int hi u,.int 1 v] }).objs.size:=by simpa using hb
  subst e
  exact I1.fpOk (Nat.le_refl _) (I1.hok.fresh (Nat.le_refl _))
noncomputable def Qmm (ta:TA):TI:=fun σ H R=>ta σ H fun vs H1=>∃ j:Int,vs=[.int j] ∧ -(2 ^ 62)≤j∧j<2 ^ 62∧R (Itr 0 j.toNat) H1
theorem QfT {a:Expr} {ta:TA} {p pos:Pos} (hg:Gl X "range") (hm:X.mg "range" = none) (ha:PA X [a] ta) (hs:starEach [a] X.env=[(false,eval a X.env)]:=by rfl):PI X tg (.Call (.Name "range" p) [a] [] pos) (Qmm ta):=by
 intro pins s σ H R I h
 refine Call_ (Qas I hg hm boot_range (PyProof.Rows.callWith_type1 (thn (ha pos pins s σ H _ I h) fun us s1 ⟨vs,H1,I1,r1,q1⟩=>?_) hs rfl))
 obtain⟨j,e,q1,q2,q⟩:=q1
 subst e
 cases r1 with
 | cons r rr =>
  cases rr
  obtain⟨t,rfl⟩:=r
  exact call_range_1 (Qhv I1 (by omega) (by omega) q1 q2 (by simpa using q))
noncomputable def tFor (wi:TI) (g:TG) (tb:TS):TS:=fun D σ H=>wi σ H fun J H1=>∃ W:Nat->Nat->St->Hp->Prop,(∃ m,W 0 m σ H1)∧∀ i m σ H,W i m σ H ->
 (J.stop i H∧D.nx σ H)∨(J.go i H∧∃ N:St->Hp->Prop,(∀ σ' H',N σ' H'->∃ m',m'<m∧W (i+1) m' σ' H')∧∀ x H',J.yld i H x H'->g x σ H' fun σ2 H2=>tb { D with nx:=N,ct:=N,bk:=D.nx } σ2 H2)
noncomputable def QcF (fp:List Addr) (h:Heap):List (Addr×Obj):=fp.filterMap fun b=>(h.get? b).map fun o=>(b,o)
theorem Jh {fp:List Addr} {h:Heap} {b:Addr} {o:Obj} (hb:b∈fp) (e:h.get? b=some o):(b,o)∈QcF fp h:=List.mem_filterMap.mpr ⟨b,hb,by rw [e]; rfl⟩
theorem QfU {fp:List Addr} {h:Heap} {p:Addr×Obj} (hp:p∈QcF fp h):p.1∈fp∧h.get? p.1=some p.2:=by
 obtain⟨b,hb,e⟩:=List.mem_filterMap.mp hp
 cases q:h.get? b with
 | none=>rw [q] at e; cases e
 | some o =>
  rw [q] at e
  have e':(b,o)=p:=Option.some.inj e
  subst e'
  exact⟨hb,q⟩
theorem Inv.pinned {pins:List (Addr×Obj)} {σ:St} {H:Hp} {s:Shared} {fp:List Addr} (I:Inv X pins σ H s) (hf:∀ b∈fp,FpOk X pins H b) (ho:∀ b∈fp,∃ o,s.heap.get? b=some o∧∀ v,o.data≠.cell v):Inv X (pins++QcF fp s.heap) σ H s :=
 I.pins_of fun p hp=>(List.mem_append.mp hp).elim (fun z=>I.pin p (List.mem_append_right _ z)) fun z=>by
  obtain⟨hb,e⟩:=QfU z
  obtain⟨f0,f1,f2,_⟩:=hf p.1 hb
  obtain⟨o,e',d⟩:=ho p.1 hb
  rw [e] at e'; cases e'
  exact⟨e,f0,f1,f2,d⟩
theorem Inv.unpinned {pins pl:List (Addr×Obj)} {σ:St} {H:Hp} {s:Shared} (I:Inv X (pins++pl) σ H s):Inv X pins σ H s:=I.pins_of fun p hp=>I.pin p (List.mem_append_right _ (List.mem_append_left _ hp))
theorem QkS {iter:Expr} {body:List Stmt} {wi:TI} {g:TG} {tb:TS} {pos:Pos} (hp:PassesOwn (model X.prog X.w) X.A X.env X.xe) (hc:X.calm=true) (hi:PI X tg iter wi) (hg:PG X tg g) (hb:PSs X body tb)
  (hs:∀ x,foldedSetIterable iter X.env x=pure x:=by intro _; rfl):PS X (.For tg iter body [] pos) (tFor wi g tb):=by
 intro pins s σ H D I h
 refine wpAny_For (thn (hi pins s σ H _ I h) fun v s1 h1=>thn h1 fun itv s2 h2=>?_) hs
 obtain⟨it,fp,tn,J,H2,e,I2,T,st2,f2,W,⟨m0,w0⟩,turn⟩:=h2
 subst e
 -- what stays true of the iterator's objects through the loop
 have stat:∀ {H':Hp},(∀ b∈fp,H' b=none)->∀ b∈fp,FpOk X pins H' b:=fun hn b hb=>⟨hn b hb,(f2 b hb).2⟩
 refine codeAny_forLoop_any (fun n s'=>∃ i σ' H',Inv X pins σ' H' s'∧tn i s'.heap∧(∀ b∈fp,H' b=none)∧W i n σ' H') ?_ m0 ⟨0,σ,H2,I2,st2,fun b hb=>(f2 b hb).1,w0⟩
 rintro n s3 ⟨i,σ3,H3,I3,st3,fr3,w3⟩
 rcases turn i n σ3 H3 w3 with⟨stop,qn⟩ | ⟨go,N,hN,step⟩
 ·refine wpAny_passesOwn hp (thn (T.done X rfl rfl rfl hc i pins s3 σ3 H3 X.xe I3 (stat fr3) st3 stop) fun r s4 ⟨hr,I4⟩=>?_)
  subst hr
  exact wpAny_execs_nil ⟨σ3,H3,I4,qn⟩
 ·refine wpAny_passesOwn hp (thn (T.item X rfl rfl rfl hc i pins s3 σ3 H3 X.xe I3 (stat fr3) st3 go) fun r s4 ⟨u,hr,h4⟩=>?_)
  subst hr
  refine wpAny_passesOwn hp (thn h4 fun _ s5 ⟨x,H5,I5,r5,y5,st5,fr5⟩=>?_)
  have I5':=I5.pinned (stat fr5) (T.obj _ _ st5)
  refine wpAny_passesOwn hp (thn (hg _ s5 σ3 H5 x u _ I5' r5 (step x H5 y5)) fun _ s6 ⟨σ6,H6,I6,q6⟩=>?_)
  refine wpAny_passesOwn hp (thn (hb _ s6 σ6 H6 _ I6 q6) fun f s7 q7=>?_)
  have again:∀ {σ7:St} {H7:Hp},Inv X (pins++QcF fp s5.heap) σ7 H7 s7->N σ7 H7->∃ m,m<n∧∃ i σ' H',Inv X pins σ' H' s7∧tn i s7.heap∧(∀ b∈fp,H' b=none)∧W i m σ' H':=fun {σ7 H7} I7 n7=>by
   obtain⟨m',hm,w7⟩:=hN σ7 H7 n7
   refine⟨m',hm,i+1,σ7,H7,I7.unpinned,T.keep _ _ _ st5 fun b hb o e=>(I7.pin (b,o) (List.mem_append_right _ (List.mem_append_right _ (Jh hb e)))).1,fun b hb=>?_,w7⟩
   obtain⟨o,e,d⟩:=T.obj _ _ st5 b hb
   exact(I7.pin (b,o) (List.mem_append_right _ (List.mem_append_right _ (Jh hb e)))).2.1
  cases f with
  | next=>obtain⟨σ7,H7,I7,n7⟩:=q7; exact again I7 n7
  | cont=>obtain⟨σ7,H7,I7,n7⟩:=q7; exact again I7 n7
  | brk=>obtain⟨σ7,H7,I7,q7⟩:=q7; exact⟨σ7,H7,I7.unpinned,q7⟩
  | ret v=>obtain⟨x7,σ7,H7,I7,r7,q7⟩:=q7; exact⟨x7,σ7,H7,I7.unpinned,r7,q7⟩
end
end L2
namespace L2
open PySem PySem.Spec PyProof.Rows
noncomputable abbrev R2:=V->V->Hp->VK->Prop
noncomputable def OpR (X:Cx) (f:Value->Value->Sem Value) (r:R2):Prop :=
 ∀(pins:List (Addr×Obj)) (s:Shared) (σ:St) (H:Hp) (x y:V) (v u:Value) (Q:VK),Inv X pins σ H s->RelV x v->RelV y u->r x y H Q ->
  wpAny (model X.prog X.w) X.A (f v u) (EP X pins σ Q) X.xe s
noncomputable def UnR (X:Cx) (f:Value->Sem Value) (r:V->Hp->VK->Prop):Prop :=
 ∀(pins:List (Addr×Obj)) (s:Shared) (σ:St) (H:Hp) (x:V) (v:Value) (Q:VK),Inv X pins σ H s->RelV x v->r x H Q ->
  wpAny (model X.prog X.w) X.A (f v) (EP X pins σ Q) X.xe s
noncomputable def Qac (X:Cx) (f:Value) (r:List V->Hp->VK->Prop):Prop :=
 ∀(pins:List (Addr×Obj)) (s:Shared) (σ:St) (H:Hp) (xs:List V) (us:List Value) (Q:VK),Inv X pins σ H s->Vals xs us->r xs H Q ->
  wpAny (model X.prog X.w) X.A (call f us) (EP X pins σ Q) X.xe s
noncomputable def tOp (r:R2) (ta tb:TE):TE:=fun σ H Q=>ta σ H fun x H1=>tb σ H1 fun y H2=>r x y H2 Q
noncomputable def tUn (r:V->Hp->VK->Prop) (ta:TE):TE:=fun σ H Q=>ta σ H fun x H1=>r x H1 Q
noncomputable def rI (C:Int->Int->Prop) (g:Int->Int->V):R2:=fun x y H Q=>∃ i j,x=.int i∧y=.int j∧C i j∧Q (g i j) H
noncomputable def rI0 (g:Int->Int->V):R2:=fun x y H Q=>∃ i j,x=.int i∧y=.int j∧Q (g i j) H
noncomputable def rU (g:Int->V):V->Hp->VK->Prop:=fun x H Q=>∃ i,x=.int i∧Q (g i) H
section
variable {X:Cx} {a b c:Expr} {ta tb tc:TE} {pos:Pos}
theorem binT (ha:PE X a ta) (hb:PE X b tb) {pins:List (Addr×Obj)} {s:Shared} {σ:St} {H:Hp} {R:V->V->Hp->Prop} (I:Inv X pins σ H s)
  (h:ta σ H fun x H1=>tb σ H1 fun y H2=>R x y H2) {Q:Value->Shared->Prop} {f:Value->Value->Sem Value}
  (hf:∀ v u s2 x y H2,Inv X pins σ H2 s2->RelV x v->RelV y u->R x y H2->wpAny (model X.prog X.w) X.A (f v u) Q X.xe s2) :
  wpAny (model X.prog X.w) X.A (eval a X.env) (fun v s₁=>wpAny (model X.prog X.w) X.A (eval b X.env) (fun u s₂=>wpAny (model X.prog X.w) X.A (f v u) Q X.xe s₂) X.xe s₁) X.xe s:=by
 refine thn (ha pins s σ H _ I h) fun v s1 ⟨x,H1,I1,r1,q1⟩=>?_
 refine thn (hb pins s1 σ H1 _ I1 q1) fun u s2 ⟨y,H2,I2,r2,q2⟩=>?_
 exact hf v u s2 x y H2 I2 r1 r2 q2
theorem Qmn {op:Operator} {r:R2} (ho:OpR X (binaryOp op) r) (ha:PE X a ta) (hb:PE X b tb):PE X (.BinOp a op b pos) (tOp r ta tb):=by
 intro pins s σ H Q I h
 exact wpAny_BinOp (binT ha hb I h fun v u s2 x y H2 I2 rx ry q=>ho pins s2 σ H2 x y v u Q I2 rx ry q)
theorem Qmo {op:UnaryOp} {r:V->Hp->VK->Prop} (ho:UnR X (unaryOp op) r) (ha:PE X a ta):PE X (.UnaryOp op a pos) (tUn r ta):=by
 intro pins s σ H Q I h
 exact UnaryOp_ (thn (ha pins s σ H _ I h) fun v s1 ⟨x,H1,I1,r1,q1⟩=>ho pins s1 σ H1 x v Q I1 r1 q1)
theorem opI {f:Value->Value->Sem Value} {C:Int->Int->Prop} {g:Int->Int->Int}
  (rule:∀(i j:Int) (t u:Tok) (s:Shared) (Q:Value->Shared->Prop) (E:Value->Shared->Prop),C i j->Q (.int (g i j) s.toks) { s with toks:=s.toks+1 }->wpAny (model X.prog X.w) X.A (f (.int i t) (.int j u)) Q E s) :
  OpR X f (rI C fun i j=>.int (g i j)):=by
 intro pins s σ H x y v u Q I rx ry h
 obtain⟨i,j,rfl,rfl,hc,q⟩:=h
 obtain⟨t,rfl⟩:=rx
 obtain⟨t',rfl⟩:=ry
 exact rule i j t t' s _ _ hc ⟨.int (g i j),H,I.tok _,⟨_,rfl⟩,q⟩
theorem opI0 {f:Value->Value->Sem Value} {g:Int->Int->Int}
  (rule:∀(i j:Int) (t u:Tok) (s:Shared) (Q:Value->Shared->Prop) (E:Value->Shared->Prop),Q (.int (g i j) s.toks) { s with toks:=s.toks+1 }->wpAny (model X.prog X.w) X.A (f (.int i t) (.int j u)) Q E s) :
  OpR X f (rI0 fun i j=>.int (g i j)):=by
 intro pins s σ H x y v u Q I rx ry h
 obtain⟨i,j,rfl,rfl,q⟩:=h
 obtain⟨t,rfl⟩:=rx
 obtain⟨t',rfl⟩:=ry
 exact rule i j t t' s _ _ ⟨.int (g i j),H,I.tok _,⟨_,rfl⟩,q⟩
theorem opB0 {f:Value->Value->Sem Value} {g:Int->Int->Bool}
  (rule:∀(i j:Int) (t u:Tok) (s:Shared) (Q:Value->Shared->Prop) (E:Value->Shared->Prop),Q (.bool (g i j)) s->wpAny (model X.prog X.w) X.A (f (.int i t) (.int j u)) Q E s) :
  OpR X f (rI0 fun i j=>.bl (g i j)):=by
 intro pins s σ H x y v u Q I rx ry h
 obtain⟨i,j,rfl,rfl,q⟩:=h
 obtain⟨t,rfl⟩:=rx
 obtain⟨t',rfl⟩:=ry
 exact rule i j t t' s _ _ ⟨.bl (g i j),H,I,rfl,q⟩
noncomputable def CDiv (i j:Int):Prop:=0<j∧j<1073741824
noncomputable def CPow (i j:Int):Prop:=0≤j∧j≤1000000∧i.natAbs<2 ^ 64
noncomputable def CMul (i j:Int):Prop:=(-(2 ^ 64)<i∧i<2 ^ 64)∨(-(2 ^ 64)<j∧j<2 ^ 64)
theorem CMul.ok {i j:Int} (h:CMul i j):IntMulOk i j:=by
 rcases h with⟨h1,h2⟩ | ⟨h1,h2⟩
 ·exact .of_left (intBits_le_64 h1 h2)
 ·exact .of_right (intBits_le_64 h1 h2)
theorem op_add:OpR X (binaryOp .Add) (rI0 fun i j=>.int (i+j)):=opI0 fun _ _ _ _ _ _ _ q=>add_int q
theorem QkT:OpR X (binaryOp .Sub) (rI0 fun i j=>.int (i - j)):=opI0 fun _ _ _ _ _ _ _ q=>sub_int q
theorem QkU:OpR X (binaryOp .Mult) (rI CMul fun i j=>.int (i*j)):=opI fun _ _ _ _ _ _ _ hc q=>mul_int q hc.ok
theorem Qji:OpR X (binaryOp .FloorDiv) (rI CDiv fun i j=>.int (i / j)):=opI fun i j _ _ _ _ _ hc q=>by
 have h1:(0:Int)<j:=hc.1
 have h2:j<1073741824:=hc.2
 exact floordiv_int (by omega) (by rw [Int.fdiv_eq_ediv_of_nonneg i (by omega)]; exact q) (.inl (PyProof.noPylong_small (by omega)))
theorem QkV:OpR X (binaryOp .Mod) (rI (fun _ j=>0<j) fun i j=>.int (i % j)):=opI fun i j _ _ _ _ _ hc q=>by
 have h1:(0:Int)<j:=hc
 exact mod_int' (by omega) (by rw [Int.fmod_eq_emod_of_nonneg i (by omega)]; exact q)
theorem QkW:OpR X (binaryOp .Pow) (rI CPow fun i j=>.int (i ^ j.toNat)):=opI fun _ _ _ _ _ _ _ hc q=>pow_int_small hc.1 hc.2.1 hc.2.2 q
theorem unI {f:Value->Sem Value} {g:Int->Int}
  (rule:∀(i:Int) (t:Tok) (s:Shared) (Q:Value->Shared->Prop) (E:Value->Shared->Prop),Q (.int (g i) s.toks) { s with toks:=s.toks+1 }->wpAny (model X.prog X.w) X.A (f (.int i t)) Q E s) :
  UnR X f (rU fun i=>.int (g i)):=by
 intro pins s σ H x v Q I rx h
 obtain⟨i,rfl,q⟩:=h
 obtain⟨t,rfl⟩:=rx
 exact rule i t s _ _ ⟨.int (g i),H,I.tok _,⟨_,rfl⟩,q⟩
theorem QkX:UnR X (unaryOp .USub) (rU fun i=>.int (-i)):=unI fun _ _ _ _ _ q=>neg_int q
end
noncomputable def scal:V->V->Bool
 | .non,.non=>true | .non,.int _=>true | .int _,.non=>true | .non,.bl _=>true | .bl _,.non=>true | .non,.str _=>true | .str _,.non=>true
 | .int _,.int _=>true | .bl _,.bl _=>true | .str _,.str _=>true | .byt _,.byt _=>true
 | .int _,.str _=>true | .str _,.int _=>true | .bl _,.str _=>true | .str _,.bl _=>true
 | _,_=>false
noncomputable def rEq:R2:=fun x y H Q=>scal x y=true∧Q (.bl (decide (x=y))) H
noncomputable def rNe:R2:=fun x y H Q=>scal x y=true∧Q (.bl (!decide (x=y))) H
theorem QbZ {i j:Int}:decide (V.int i=V.int j)=(i == j):=by
 rw [Bool.eq_iff_iff]
 simp
theorem Qek {i j:Bool}:decide (V.bl i=V.bl j)=(i == j):=by
 rw [Bool.eq_iff_iff]
 simp
theorem Qb0 {i j:Str}:decide (V.str i=V.str j)=(i == j):=by
 rw [Bool.eq_iff_iff]
 simp
theorem QfV {i j:Array UInt8}:decide (V.byt i=V.byt j)=(i.toList == j.toList):=by
 rw [Bool.eq_iff_iff]
 cases i
 cases j
 simp
section
variable {X:Cx} {a b c:Expr} {ta tb tc:TE} {pos:Pos}
theorem QQ {pins:List (Addr×Obj)} {σ:St} {H:Hp} {s:Shared} {Q:VK} {k k':Bool} (I:Inv X pins σ H s) (q:Q (.bl k) H) (e:k=k'):EP X pins σ Q (.bool k') s:=by
 subst e
 exact⟨.bl k,H,I,rfl,q⟩
theorem QkY:OpR X (compareOp .Eq) rEq:=by
 intro pins s σ H x y v u Q I rx ry h
 obtain⟨hs,q⟩:=h
 cases x with
 | non =>
  cases rx
  cases y with
  | non=>cases ry; exact PySem.EqNone.eq_none_none (QQ I q (by simp))
  | bl j=>cases ry; exact PySem.EqNone.eq_none_bool (QQ I q (by simp))
  | int j=>obtain⟨t',rfl⟩:=ry; exact PySem.EqNone.eq_none_int (QQ I q (by simp))
  | str j=>obtain⟨t',rfl⟩:=ry; exact PySem.EqNone.eq_none_str (QQ I q (by simp))
  | _=>exact absurd (show false=true from hs) Bool.false_ne_true
 | bl i =>
  cases rx
  cases y with
  | non=>cases ry; exact PySem.EqNone.eq_bool_none (QQ I q (by simp))
  | bl j=>cases ry; exact eq_bool (QQ I q Qek)
  | str j=>obtain⟨t',rfl⟩:=ry; exact PySem.EqMixed.eq_bool_str (QQ I q (by simp))
  | _=>exact absurd (show false=true from hs) Bool.false_ne_true
 | int i =>
  obtain⟨t,rfl⟩:=rx
  cases y with
  | non=>cases ry; exact PySem.EqNone.eq_int_none (QQ I q (by simp))
  | int j=>obtain⟨t',rfl⟩:=ry; exact eq_int (QQ I q QbZ)
  | str j=>obtain⟨t',rfl⟩:=ry; exact PySem.EqMixed.eq_int_str (QQ I q (by simp))
  | _=>exact absurd (show false=true from hs) Bool.false_ne_true
 | str i =>
  obtain⟨t,rfl⟩:=rx
  cases y with
  | non=>cases ry; exact PySem.EqNone.eq_str_none (QQ I q (by simp))
  | bl j=>cases ry; exact PySem.EqMixed.eq_str_bool (QQ I q (by simp))
  | int j=>obtain⟨t',rfl⟩:=ry; exact PySem.EqMixed.eq_str_int (QQ I q (by simp))
  | str j=>obtain⟨t',rfl⟩:=ry; exact eq_str (QQ I q Qb0)
  | _=>exact absurd (show false=true from hs) Bool.false_ne_true
 | byt i =>
  obtain⟨t,rfl⟩:=rx
  cases y with
  | byt j=>obtain⟨t',rfl⟩:=ry; exact PySem.W.eq_bytes (QQ I q QfV)
  | _=>exact absurd (show false=true from hs) Bool.false_ne_true
 | _=>cases y <;> exact absurd (show false=true from hs) Bool.false_ne_true
theorem op_ne:OpR X (compareOp .NotEq) rNe:=by
 intro pins s σ H x y v u Q I rx ry h
 obtain⟨hs,q⟩:=h
 cases x with
 | non =>
  cases rx
  cases y with
  | non=>cases ry; exact PySem.EqNone.ne_none_none (QQ I q (by simp))
  | bl j=>cases ry; exact PySem.EqNone.ne_none_bool (QQ I q (by simp))
  | int j=>obtain⟨t',rfl⟩:=ry; exact PySem.EqNone.ne_none_int (QQ I q (by simp))
  | str j=>obtain⟨t',rfl⟩:=ry; exact PySem.EqNone.ne_none_str (QQ I q (by simp))
  | _=>exact absurd (show false=true from hs) Bool.false_ne_true
 | bl i =>
  cases rx
  cases y with
  | non=>cases ry; exact PySem.EqNone.ne_bool_none (QQ I q (by simp))
  | bl j=>cases ry; exact ne_bool (QQ I q (congrArg not Qek))
  | str j=>obtain⟨t',rfl⟩:=ry; exact PySem.EqMixed.ne_bool_str (QQ I q (by simp))
  | _=>exact absurd (show false=true from hs) Bool.false_ne_true
 | int i =>
  obtain⟨t,rfl⟩:=rx
  cases y with
  | non=>cases ry; exact PySem.EqNone.ne_int_none (QQ I q (by simp))
  | int j=>obtain⟨t',rfl⟩:=ry; exact ne_int (QQ I q (congrArg not QbZ))
  | str j=>obtain⟨t',rfl⟩:=ry; exact PySem.EqMixed.ne_int_str (QQ I q (by simp))
  | _=>exact absurd (show false=true from hs) Bool.false_ne_true
 | str i =>
  obtain⟨t,rfl⟩:=rx
  cases y with
  | non=>cases ry; exact PySem.EqNone.ne_str_none (QQ I q (by simp))
  | bl j=>cases ry; exact PySem.EqMixed.ne_str_bool (QQ I q (by simp))
  | int j=>obtain⟨t',rfl⟩:=ry; exact PySem.EqMixed.ne_str_int (QQ I q (by simp))
  | str j=>obtain⟨t',rfl⟩:=ry; exact ne_str (QQ I q (congrArg not Qb0))
  | _=>exact absurd (show false=true from hs) Bool.false_ne_true
 | byt i =>
  obtain⟨t,rfl⟩:=rx
  cases y with
  | byt j=>obtain⟨t',rfl⟩:=ry; exact PySem.W.ne_bytes (QQ I q (congrArg not QfV))
  | _=>exact absurd (show false=true from hs) Bool.false_ne_true
 | _=>cases y <;> exact absurd (show false=true from hs) Bool.false_ne_true
theorem QkZ:OpR X (compareOp .Lt) (rI0 fun i j=>.bl (decide (i<j))):=opB0 fun _ _ _ _ _ _ _ q=>lt_int q
theorem Qk0:OpR X (compareOp .LtE) (rI0 fun i j=>.bl (decide (i≤j))):=opB0 fun _ _ _ _ _ _ _ q=>le_int q
theorem Qk1:OpR X (compareOp .Gt) (rI0 fun i j=>.bl (decide (j<i))):=opB0 fun _ _ _ _ _ _ _ q=>gt_int q
theorem Qmp:OpR X (compareOp .GtE) (rI0 fun i j=>.bl (decide (j≤i))):=opB0 fun _ _ _ _ _ _ _ q=>ge_int q
theorem Qk2:OpR X (compareOp .Is) (fun x y H Q=>y=.non∧Q (.bl (decide (x=.non))) H):=by
 intro pins s σ H x y v u Q I rx ry h
 obtain⟨rfl,q⟩:=h
 cases ry
 refine is_none_gen (QQ I q ?_)
 cases x <;> first
  | (cases rx; rfl)
  | (obtain⟨t,rfl⟩:=rx; rfl)
theorem OpR.or {f:Value->Value->Sem Value} {r r':R2} (h:OpR X f r) (h':OpR X f r'):OpR X f (fun x y H Q=>r x y H Q∨r' x y H Q):=by
 intro pins s σ H x y v u Q I rx ry q
 rcases q with q | q
 ·exact h pins s σ H x y v u Q I rx ry q
 ·exact h' pins s σ H x y v u Q I rx ry q
theorem JQ (b:Expr) {op:CmpOp} (h:op≠.In:=by decide) (h2:op≠.NotIn:=by decide):behindInMarks op b=false:=by
 have e1:(op == CmpOp.In)=false:=by cases op <;> first | rfl | exact absurd rfl h
 have e2:(op == CmpOp.NotIn)=false:=by cases op <;> first | rfl | exact absurd rfl h2
 cases b <;> simp [behindInMarks,e1,e2]
theorem Qjj {op:CmpOp} {r:R2} (ho:OpR X (compareOp op) r) (ha:PE X a ta) (hb:PE X b tb) (hm:behindInMarks op b=false):PE X (.Compare a [op] [b] pos) (tOp r ta tb):=by
 intro pins s σ H Q I h
 exact wpAny_Compare1 (binT ha hb I h fun v u s2 x y H2 I2 rx ry q=>ho pins s2 σ H2 x y v u Q I2 rx ry q) hm
noncomputable def Qmq (t:TE):TT:=fun σ H Q=>t σ H fun x H'=>∃ k,x=.bl k∧Q k H'
theorem Qjk {op:CmpOp} {r:R2} (ho:OpR X (compareOp op) r) (ha:PE X a ta) (hb:PE X b tb) (hm:behindInMarks op b=false):PT X (.Compare a [op] [b] pos) (Qmq (tOp r ta tb)):=by
 intro pins s σ H Q I h
 refine wpAny_isTrue_Compare1 (thn (ha pins s σ H _ I h) fun v s1 ⟨x,H1,I1,r1,q1⟩=>thn (hb pins s1 σ H1 _ I1 q1) fun u s2 ⟨y,H2,I2,r2,q2⟩ =>
  thn (ho pins s2 σ H2 x y v u _ I2 r1 r2 q2) fun c s3 ⟨z,H3,I3,r3,k,e,q3⟩=>?_) hm
 subst e
 cases r3
 exact wpAny_truthy_bool ⟨H3,I3,q3⟩
noncomputable def QiJ (r r':R2) (ta tb tc:TE):TE:=fun σ H Q=>ta σ H fun x H1=>tb σ H1 fun y H2=>r x y H2 fun z H3=>∃ k,z=.bl k ∧
 (if k=true then tc σ H3 fun w' H4=>r' y w' H4 Q else Q (.bl false) H3)
theorem Qhw {op op':CmpOp} {r r':R2} (ho:OpR X (compareOp op) r) (ho':OpR X (compareOp op') r') (ha:PE X a ta) (hb:PE X b tb) (hc:PE X c tc)
  (hm:lastMarks [op,op'] [b,c]=false:=by with_unfolding_all rfl):PE X (.Compare a [op,op'] [b,c] pos) (QiJ r r' ta tb tc):=by
 intro pins s σ H Q I h
 refine Compare_chain (thn (ha pins s σ H _ I h) fun v s1 ⟨x,H1,I1,r1,q1⟩=>chain_link (thn (hb pins s1 σ H1 _ I1 q1) fun u s2 ⟨y,H2,I2,r2,q2⟩ =>
  thn (ho pins s2 σ H2 x y v u _ I2 r1 r2 q2) fun d s3 ⟨z,H3,I3,r3,k,e,q3⟩=>?_)) hm
 subst e
 cases r3
 refine wpAny_truthy_bool ?_
 cases k with
 | false=>exact ite_ff ⟨.bl false,H3,I3,rfl,q3⟩
 | true=>exact ite_tt (chain_last (thn (hc pins s3 σ H3 _ I3 q3) fun w' s4 ⟨z',H4,I4,r4,q4⟩=>ho' pins s4 σ H4 y z' u w' Q I4 r2 r4 q4))
theorem Qat:(sizeLine:Nat)<2 ^ 63:=by rw [sizeLine_eq]; decide
theorem Qhx {x:V} {us:List Value} (r:Vals [x] us):∃ u,us=[u]∧RelV x u:=by
 cases r with
 | cons r1 r2=>cases r2; exact⟨_,rfl,r1⟩
end
end L2
namespace L2
open PySem PySem.Spec PyProof.Rows
structure ObjM (h:Heap) (x dx C:Addr) (mA:Str->Option Value):Prop where
 obj:h.get? x=some (PySem.W.instObj C dx)
 ns:h.Ns1 dx mA
 ne:dx≠x
theorem QfW {h:Heap} {dx:Addr} {mA:Str->Option Value} (n:h.Ns1 dx mA):∃ od,h.get? dx=some od∧∀ name,PySem.W.lookIn name od=some (mA name):=by
 obtain⟨o,es,ep,ho,hd,hk,_,hm⟩:=n
 refine⟨o,ho,fun name=>?_⟩
 have e:=hm name
 unfold nsFind findBy at e
 rw [← Array.find?_toList] at e
 unfold PySem.W.lookIn
 rw [hd]
 dsimp only
 split
 ·rename_i y q
  rw [q] at e
  exact congrArg some e
 ·rename_i q
  rw [q] at e
  have a:es.toList.any (·.refKey)=false:=by
   rw [List.any_eq_false]
   intro y hy
   obtain⟨z,t,hkey⟩:=hk y (Array.mem_toList_iff.mp hy)
   simp [DictEntry.refKey,hkey]
  have a':¬ es.toList.any (·.refKey)=true:=by rw [a]; exact Bool.false_ne_true
  rw [if_neg a']
  exact congrArg some e
theorem ObjM.look {h:Heap} {x dx C:Addr} {mA:Str->Option Value} (I:ObjM h x dx C mA):∃ od,PySem.W.InstAt h x (PySem.W.instObj C dx) C (some od)∧∀ name,PySem.W.lookIn name od=some (mA name) :=
 let ⟨od,ho,hl⟩:=QfW I.ns
 ⟨od,⟨I.obj,rfl,rfl,ho⟩,hl⟩
section
variable {prog:Program} {w:World} {A:Around} {E:Value->Shared->Prop} {s:Shared} {K:PySem.W.Frag} {x dx C f:Addr} {mA:Str->Option Value} {name:Str} {v:Value}
theorem Qjl {expr:Bool} {Q:Value->Shared->Prop} (X:K.In s.heap) (I:ObjM s.heap x dx C mA) (hg:PySem.W.plainGet K C name=true) (hh:PySem.W.hasDictIn K C=true)
  (ha:PySem.W.findIn K (.ref C) name=some none) (hv:mA name=some v) (hv':PySem.W.handedIn v=true) (h:Q v { s with toks:=s.toks+1 }) :
  wpAny (model prog w) A (getAttr (.ref x) name expr) Q E s:=by
 obtain⟨od,J,hl⟩:=I.look
 exact PySem.W.get_value X J (PySem.W.plainGet_of hg).1 (PySem.W.findObj_own hh ha rfl (by rw [hl,hv])) hv' h
theorem Qhy {pl:Sem Bool} {Q:Value×List Value->Shared->Prop} (X:K.In s.heap) (I:ObjM s.heap x dx C mA) (hg:PySem.W.plainGet K C name=true)
  (hf:PySem.W.findIn K (.ref C) name=some (some (.ref f))) (ht:PySem.W.isFn K (.ref f)=true) (hv:mA name=none) (h:Q (.ref f,[.ref x]) s) :
  wpAny (model prog w) A (getMethod (.ref x) name pl) Q E s:=by
 obtain⟨od,J,hl⟩:=I.look
 exact PySem.W.method_fn X J (PySem.W.plainGet_of hg).1 (PySem.W.plainGet_of hg).2 hf (beq_iff_eq.mp ht) (by show(PySem.W.lookIn name od).map (·.isSome)=some false; rw [hl,hv]; rfl) h
theorem Qjm {ns:List Str} {Q:Unit->Shared->Prop} (X:K.In s.heap) (I:ObjM s.heap x dx C mA)
  (hs:PySem.W.findIn K (.ref C) "__setattr__" = some (some (.builtin "object.__setattr__"))) (hp:PySem.W.plainOver K C=true) (ht:PySem.W.takerIn K C name=some none) (hh:PySem.W.hasDictIn K C=true)
  (hw:PySem.Within mA ns) (hsz:ns.length≤sizeLine)
  (h:∀ h',ObjM h' x dx C (fun y=>if y=name then some v else mA y)->Heap.SameBut dx s.heap h'->Q () { s with heap:=h',toks:=s.toks+2 }) :
  wpAny (model prog w) A (setAttr (.ref x) name v) Q E s:=by
 obtain⟨od,J,hl⟩:=I.look
 refine PySem.W.set_plain X J hs (PySem.W.osa_open (s:={ s with toks:=s.toks+1 }) (r:=none) X J hp ht fun b=>?_)
 obtain⟨cd,hc,hd'⟩:=PySem.W.any_some hh
 have hx:s.heap.get? x=some ⟨.ref C,some dx,.plain,#[]⟩:=I.obj
 refine wpAny_bind (wpAny_pure (wpAny_bind (wpAny_bind (wpAny_loadPart hx (wpAny_bind (PySem.W.Looks.here (s:={ s with toks:=s.toks+1 }) (PySem.W.looks_clsIn X hc) ?_))))))
 rw [hd']
 refine wpAny_pure (a:=some dx) (wpAny_bind (wpAny_pure (wpAny_bind ?_)))
 refine wpAny_nsSet1 (s:={ s with toks:=s.toks+1 }) I.ns fun h' hn2 hs2=>?_
 obtain⟨oD,esD,epD,hoD,hdD,hcD⟩:=hn2.count (PySem.Within.cons name v hw)
 refine wpAny_bind (wpAny_lookBehind hoD (by rw [hdD]; exact pastItsLine_dict (Nat.le_trans hcD (by rw [List.length_cons]; omega))) ?_)
 exact wpAny_pure (h _ ⟨(hs2.2 _ (Ne.symm I.ne)).trans I.obj,hn2,I.ne⟩ hs2)
theorem Qhz {R:Result->Shared->Prop} {vs:List Value} {kw:List (Str×Value)} (X:K.In s.heap) (hm:PySem.W.makesIn K C=true)
  (hi:PySem.W.findIn K (.ref C) "__init__" = some (some (.ref f))) (hf:PySem.W.typeIn K (.ref f)=some (.type "function"))
  (h:codeAny (model prog w) (A.under (.builtin "type.__call__" ⟨.ref C::vs,kw⟩)) (.call (.ref f) ⟨.ref (s.heap.objs.size+1)::vs,kw⟩) (PySem.W.InitBack (s.heap.objs.size+1) R)
   { s with heap:=(s.heap.push PySem.W.emptyDict).push (PySem.W.instObj C s.heap.objs.size) }) :
  codeAny (model prog w) A (.call (.ref C) ⟨vs,kw⟩) R s:=by
 obtain⟨hh,g,d,t,os⟩:=s
 exact PySem.W.make_core (PySem.W.makes_of X hm) (PySem.W.looks_findIn X hi) (fun self=>PySem.W.bind_fn X self hf) (.inl rfl) h
end
noncomputable def putF (f:Str) (v:V):List (Str×V)->List (Str×V)
 | []=>[(f,v)]
 | (g,x)::r=>if g=f then (g,v)::r else (g,x)::putF f v r
theorem QaS (f g:Str) (v:V):∀ fs:List (Str×V),(putF f v fs).lookup g=if g=f then some v else fs.lookup g
 | []=>by
  show List.lookup g [(f,v)]=_
  by_cases h:g=f
  ·have hb:(g == f)=true:=beq_iff_eq.mpr h
   simp only [List.lookup,hb,if_pos h]
  ·have hb:(g == f)=false:=beq_eq_false_iff_ne.mpr h
   simp only [List.lookup,hb,if_neg h]
 | (k,x)::r=>by
  have ih:=QaS f g v r
  rw [show putF f v ((k,x)::r)=(if k=f then (k,v)::r else (k,x)::putF f v r) from rfl]
  by_cases hk:k=f
  ·rw [if_pos hk]
   by_cases h:g=k
   ·have hb:(g == k)=true:=beq_iff_eq.mpr h
    simp only [List.lookup,hb,if_pos (h.trans hk)]
   ·have hb:(g == k)=false:=beq_eq_false_iff_ne.mpr h
    simp only [List.lookup,hb,if_neg (fun e:g=f=>h (e.trans hk.symm))]
  ·rw [if_neg hk]
   by_cases h:g=k
   ·have hb:(g == k)=true:=beq_iff_eq.mpr h
    simp only [List.lookup,hb,if_neg (fun e:g=f=>hk (h.symm.trans e))]
   ·have hb:(g == k)=false:=beq_eq_false_iff_ne.mpr h
    simp only [List.lookup,hb]
    exact ih
theorem QaT (f:Str) (v:V):∀ fs:List (Str×V),f∈(putF f v fs).map (·.1)∧∀ g,g∈fs.map (·.1)->g∈(putF f v fs).map (·.1)
 | []=>⟨by simp [putF],fun g h=>by simp at h⟩
 | (k,x)::r=>by
  obtain⟨i1,i2⟩:=QaT f v r
  rw [show putF f v ((k,x)::r)=(if k=f then (k,v)::r else (k,x)::putF f v r) from rfl]
  by_cases hk:k=f
  ·rw [if_pos hk]
   subst hk
   exact⟨by simp,fun g h=>by simpa using h⟩
  ·rw [if_neg hk]
   refine⟨?_,fun g h=>?_⟩
   ·rw [List.map_cons]
    exact List.mem_cons_of_mem _ i1
   ·rw [List.map_cons] at h ⊢
    rcases List.mem_cons.mp h with e | e
    ·exact List.mem_cons.mpr (.inl e)
    ·exact List.mem_cons_of_mem _ (i2 g e)
theorem QaU (f:Str) (v:V):∀ fs:List (Str×V),(putF f v fs).length≤fs.length+1
 | []=>by simp [putF]
 | (k,x)::r=>by
  have ih:=QaU f v r
  rw [show putF f v ((k,x)::r)=(if k=f then (k,v)::r else (k,x)::putF f v r) from rfl]
  by_cases hk:k=f
  ·rw [if_pos hk,List.length_cons,List.length_cons]; omega
  ·rw [if_neg hk,List.length_cons,List.length_cons]; omega
theorem RelO.some_of {v:V} {o:Option Value} (r:RelO (some v) o):∃ u,o=some u∧RelV v u:=by
 cases o with
 | none=>exact(show False from r).elim
 | some u=>exact⟨u,rfl,r⟩
theorem RelO.none_of {o:Option Value} (r:RelO none o):o=none:=by
 cases o with
 | none=>rfl
 | some u=>exact(show False from r).elim
theorem QfX {v:V} {u:Value} (r:RelV v u):PySem.W.handedIn u=true:=by
 cases v with
 | non=>cases (show u=Value.none from r); rfl
 | bl b=>cases (show u=Value.bool b from r); rfl
 | int i=>obtain⟨t,e⟩:=(show ∃ t,u=Value.int i t from r); cases e; rfl
 | str x=>obtain⟨t,e⟩:=(show ∃ t,u=Value.str x t from r); cases e; rfl
 | byt b=>obtain⟨t,e⟩:=(show ∃ t,u=Value.bytes b t from r); cases e; rfl
 | flt b=>obtain⟨t,e⟩:=(show ∃ t,u=Value.float b t from r); cases e; rfl
 | ref a=>cases (show u=Value.ref a from r); rfl
 | ty n=>cases (show u=Value.type n from r); rfl
section
variable {P:Program} {w:World} {H H':Hp} {h h':Heap} {a C dx:Addr} {fs fs':List (Str×V)}
theorem Qb1 (hok:HOk P w H h) (e:H a=some (.ins C dx fs)):∃ mA,ObjM h a dx C mA∧(∀ f,RelO (fs.lookup f) (mA f))∧PySem.Within mA (fs.map (·.1))∧fs.length≤1000∧H dx=some (.own a):=by
 obtain⟨d,z,ne,ob,mA,n,r,q⟩:=(show ObjOk P w H h a (.ins C dx fs) from hok a _ e)
 exact⟨mA,⟨ob,n,ne⟩,r,q,z,d⟩
end
structure Cls (K:PySem.W.Frag) (C:Addr):Prop where
 pg:PySem.W.plainGet K C Str.empty=true
 hd:PySem.W.hasDictIn K C=true
 po:PySem.W.plainOver K C=true
 sa:PySem.W.findIn K (.ref C) "__setattr__" = some (some (.builtin "object.__setattr__"))
theorem Cls.get {K:PySem.W.Frag} {C:Addr} (c:Cls K C) (f:Str):PySem.W.plainGet K C f=true:=c.pg
noncomputable def NoAttr (K:PySem.W.Frag) (C:Addr) (f:Str):Prop:=PySem.W.findIn K (.ref C) f=some none
theorem NoAttr.taker {K:PySem.W.Frag} {C:Addr} {f:Str} (n:NoAttr K C f):PySem.W.takerIn K C f=some none:=by
 unfold PySem.W.takerIn
 rw [show PySem.W.findIn K (.ref C) f=some none from n]
 rfl
structure Meth (K:PySem.W.Frag) (C:Addr) (m:Str) (f:Addr):Prop where
 at_:PySem.W.findIn K (.ref C) m=some (some (.ref f))
 fn:PySem.W.isFn K (.ref f)=true
 kp:PySem.W.keepIn K (.ref f)=true
section
variable {X:Cx} {pins:List (Addr×Obj)} {σ:St} {H:Hp} {s:Shared} {a C dx:Addr} {fs:List (Str×V)} {f:Str} {v:V} {A:Around} {E:Value->Shared->Prop}
theorem Qe1 {b:Bool} {Q:Value->Shared->Prop} (I:Inv X pins σ H s) (e:H a=some (.ins C dx fs)) (c:Cls X.K C) (n:NoAttr X.K C f) (l:fs.lookup f=some v)
  (h:∀ u s',Inv X pins σ H s'->RelV v u->Q u s'):wpAny (model X.prog X.w) A (getAttr (.ref a) f b) Q E s:=by
 obtain⟨mA,O,r,_,_,_⟩:=Qb1 I.hok e
 obtain⟨u,hu,ru⟩:=RelO.some_of (v:=v) (o:=mA f) (by rw [← l]; exact r f)
 exact Qjl I.kIn O (c.get f) c.hd n hu (QfX ru) (h u _ (I.tok _) ru)
theorem QbD {m:Str} {g:Addr} {pl:Sem Bool} {Q:Value×List Value->Shared->Prop} (I:Inv X pins σ H s) (e:H a=some (.ins C dx fs)) (c:Cls X.K C) (k:Meth X.K C m g) (l:fs.lookup m=none)
  (h:Q (.ref g,[.ref a]) s):wpAny (model X.prog X.w) A (getMethod (.ref a) m pl) Q E s:=by
 obtain⟨mA,O,r,_,_,_⟩:=Qb1 I.hok e
 have hn:mA m=none:=RelO.none_of (by rw [← l]; exact r m)
 exact Qhy I.kIn O (c.get m) k.at_ k.fn hn h
theorem Qe2 {y:V} {u:Value} {Q:Unit->Shared->Prop} (I:Inv X pins σ H s) (e:H a=some (.ins C dx fs)) (c:Cls X.K C) (n:NoAttr X.K C f) (hl:fs.length<1000) (ry:RelV y u)
  (h:∀ s',Inv X pins σ (upd H a (.ins C dx (putF f y fs))) s'->Q () s'):wpAny (model X.prog X.w) A (setAttr (.ref a) f u) Q E s:=by
 obtain⟨mA,O,r,wi,_,ho⟩:=Qb1 I.hok e
 have hz:(fs.map (·.1)).length≤sizeLine:=by rw [List.length_map,sizeLine_eq]; omega
 refine Qjm I.kIn O c.sa c.po n.taker c.hd wi hz fun h' O' sb=>h _ ?_
 have hd:∃ o,h'.get? dx=some o:=let ⟨o,_,_,e',_⟩:=O'.ns; ⟨o,e'⟩
 refine I.write (x:=a) (e:=dx) (by rw [e]; exact True.intro) (.inr ho) (fun b q hb z=>(sb.2 b hb).trans z) hd ?_
 refine⟨by rw [Qq O.ne]; exact ho,?_,O.ne,O'.obj,_,O'.ns,fun g=>?_,fun g hg=>?_⟩
 ·have:=QaU f y fs; omega
 ·show RelO ((putF f y fs).lookup g) (if g=f then some u else mA g)
  rw [QaS]
  by_cases q:g=f
  ·rw [if_pos q,if_pos q]; exact ry
  ·rw [if_neg q,if_neg q]; exact r g
 ·by_cases q:g=f
  ·rw [q]; exact(QaT f y fs).1
  ·refine(QaT f y fs).2 g (wi g fun z=>hg ?_)
   show(if g=f then some u else mA g)=none
   rw [if_neg q]; exact z
theorem Inv.made (I:Inv X pins σ H s):Inv X pins σ (upd (upd H s.heap.objs.size (.own (s.heap.objs.size+1))) (s.heap.objs.size+1) (.ins C s.heap.objs.size []))
  { s with heap:=(s.heap.push PySem.W.emptyDict).push (PySem.W.instObj C s.heap.objs.size) }:=by
 have e1:(s.heap.push PySem.W.emptyDict).get? s.heap.objs.size=some PySem.W.emptyDict:=Heap.get?_push_size s.heap rfl
 have e2:((s.heap.push PySem.W.emptyDict).push (PySem.W.instObj C s.heap.objs.size)).get? (s.heap.objs.size+1)=some (PySem.W.instObj C s.heap.objs.size):=by
  have:=Heap.get?_push_size (s.heap.push PySem.W.emptyDict) (o:=PySem.W.instObj C s.heap.objs.size) rfl
  rwa [Heap.size_push] at this
 have e3:(s.heap.push PySem.W.emptyDict).Ns s.heap.objs.size (fun _=>none):=⟨PySem.W.emptyDict,#[],_,e1,rfl,(fun e he=>absurd he (by simp)),fun _=>rfl⟩
 have I1:=I.laid (a:=s.heap.objs.size) (o:=.own (s.heap.objs.size+1)) (h':=s.heap.push PySem.W.emptyDict) (t':=s.toks) (fun b u q=>Heap.get?_push_of_some _ q) (Nat.le_refl _) ⟨_,e1⟩
 refine I1.laid (a:=s.heap.objs.size+1) (o:=.ins C s.heap.objs.size []) (t':=s.toks) (fun b u q=>Heap.get?_push_of_some _ q) (Nat.le_of_eq (Heap.size_push _ _)) ?_
 have ne:s.heap.objs.size≠s.heap.objs.size+1:=Nat.ne_of_lt (Nat.lt_succ_self _)
 refine⟨by rw [Qq ne,Qn],Nat.zero_le _,ne,e2,fun _=>none,(Heap.Ns1.of_empty e3).at fun o q=>Heap.get?_push_of_some _ q,fun _=>True.intro,fun y hy=>absurd rfl hy⟩
theorem Qjn {prog:Program} {w:World} {env:Env} {e:Expr} {f:Str} {pos:Pos} {s:Shared} {Q:Value->Shared->Prop} (hb:attributeBase e f env (eval e env)=eval e env)
  (h:wpAny (model prog w) A (eval e env) (fun o s₁=>wpAny (model prog w) A (getAttr o f true) Q E s₁) E s):wpAny (model prog w) A (eval (.Attribute e f pos) env) Q E s :=
 Attribute_any_ h (by rw [arm_eval_Attribute,hb])
end
noncomputable def tFld (K:PySem.W.Frag) (ta:TE) (f:Str):TE:=fun σ H Q=>ta σ H fun x H1=>∃ a C dx fs v,x=.ref a∧H1 a=some (.ins C dx fs)∧Cls K C∧NoAttr K C f∧fs.lookup f=some v∧Q v H1
noncomputable def sFld (K:PySem.W.Frag) (ta tv:TE) (f:Str):TS:=fun D σ H=>tv σ H fun y H1=>ta σ H1 fun x H2=>∃ a C dx fs,x=.ref a∧H2 a=some (.ins C dx fs)∧Cls K C∧NoAttr K C f∧fs.length<1000 ∧
 D.nx σ (upd H2 a (.ins C dx (putF f y fs)))
section
variable {X:Cx} {o e value:Expr} {f:Str} {pos pos' tpos:Pos} {ta tv:TE}
theorem Qk3 (he:PE X e ta) (hb:attributeBase e f X.env (eval e X.env)=eval e X.env):PE X (.Attribute e f pos) (tFld X.K ta f):=by
 intro pins s σ H Q I h
 refine Qjn hb (thn (he pins s σ H _ I h) fun u s1 ⟨x,H1,I1,rx,a,C,dx,fs,v,ex,ea,c,n,l,q⟩=>?_)
 subst ex
 obtain rfl:u=Value.ref a:=rx
 exact Qe1 I1 ea c n l fun u' s2 I2 ru=>⟨v,H1,I2,ru,q⟩
theorem Qk4 (ha:PE X o ta) (hv:PE X value tv) (hs:swapsWith value (some (.Attribute o f pos')) pos.line X.env=pure false):PS X (.Assign [.Attribute o f pos'] value pos) (sFld X.K ta tv f):=by
 intro pins s σ H D I h
 refine plainObj_wpAny_Assign_Attribute (thn (hv pins s σ H _ I h) fun u s1 ⟨y,H1,I1,ry,q⟩=>thn (ha pins s1 σ H1 _ I1 q) fun ov s2 ⟨x,H2,I2,rx,a,C,dx,fs,ex,ea,c,n,l,q2⟩=>?_) hs
 subst ex
 obtain rfl:ov=Value.ref a:=rx
 exact Qe2 I2 ea c n l ry fun s3 I3=>⟨σ,_,I3,q2⟩
end
section
variable {X:Cx} {pins:List (Addr×Obj)} {σ:St} {H:Hp} {s:Shared} {A:Around} {E:Value->Shared->Prop} {Q:Value->Shared->Prop} {c:Value} {b:Bool}
inductive TyOf (K:PySem.W.Frag) (H:Hp):V->Value->Prop where
 | non:TyOf K H .non (.type "NoneType")
 | bl (x:Bool):TyOf K H (.bl x) (.type "bool")
 | int (i:Int):TyOf K H (.int i) (.type "int")
 | str (x:Str):TyOf K H (.str x) (.type "str")
 | flt (x:UInt64):TyOf K H (.flt x) (.type "float")
 | lst {a:Addr} {xs:List V} (e:H a=some (.lst xs)):TyOf K H (.ref a) (.type "list")
 | frz {a:Addr} {o:Obj} {xs:List V} (e:H a=some (.frz o (.lst xs))):TyOf K H (.ref a) (.type "list")
 | tup {a:Addr} {xs:List V} (e:H a=some (.tup xs)):TyOf K H (.ref a) (.type "tuple")
 | dK {a:Addr} {kvs:List (Key×V)} (e:H a=some (.dK kvs)):TyOf K H (.ref a) (.type "dict")
 | dT {a:Addr} {kvs:List (List Key×V)} (e:H a=some (.dT kvs)):TyOf K H (.ref a) (.type "dict")
 | ins {a C dx:Addr} {fs:List (Str×V)} (e:H a=some (.ins C dx fs)) (cl:Cls K C) (ha:PySem.W.findIn K (.ref C) "__class__" = some (some (.builtin "object.__class__")))
   (hn:PySem.W.specialIn K (.builtin "object.__class__") "__get__" = some (some (.builtin "getset_descriptor.__get__"))) (htk:PySem.W.takesIn K (.builtin "object.__class__")=some true)
   (hm:PySem.W.mroIn K C (.type "object")=some true):TyOf K H (.ref a) (.ref C)
theorem Yj {x:V} {u t:Value} (I:Inv X pins σ H s) (rx:RelV x u) (ty:TyOf X.K H x t) (e:PySem.W.kitOne X.K t c=some b) (h:∀ tk,Q (.bool b) { s with toks:=tk }) :
  wpAny (model X.prog X.w) A (call (.builtin "isinstance") [u,c]) Q E s:=by
 cases ty with
 | non=>cases (show u=Value.none from rx); exact PySem.W.kia_one PySem.W.kitx_none I.kIn True.intro e (fun z=>nomatch z) h
 | bl y=>cases (show u=Value.bool y from rx); exact PySem.W.kia_one PySem.W.kitx_bool I.kIn True.intro e (fun z=>nomatch z) h
 | int i=>obtain⟨t,q⟩:=(show ∃ t,u=Value.int i t from rx); cases q; exact PySem.W.kia_one PySem.W.kitx_int I.kIn True.intro e (fun z=>nomatch z) h
 | str y=>obtain⟨t,q⟩:=(show ∃ t,u=Value.str y t from rx); cases q; exact PySem.W.kia_one PySem.W.kitx_str I.kIn True.intro e (fun z=>nomatch z) h
 | flt y=>obtain⟨t,q⟩:=(show ∃ t,u=Value.float y t from rx); cases q; exact PySem.W.kia_one PySem.W.kitx_float I.kIn True.intro e (fun z=>nomatch z) h
 | @lst a xs ea =>
  cases (show u=Value.ref a from rx)
  obtain⟨_,_,n,_,h1⟩:=(show ObjOk X.prog X.w H s.heap a (.lst xs) from I.hok a _ ea)
  exact PySem.W.kia_one PySem.W.kitx_list I.kIn ⟨_,h1,rfl⟩ e (fun z=>nomatch z) h
 | @frz a ob xs ea =>
  cases (show u=Value.ref a from rx)
  obtain⟨_,_,_,n,_,h1⟩:=(show ObjOk X.prog X.w H s.heap a (.frz ob (.lst xs)) from I.hok a _ ea)
  exact PySem.W.kia_one PySem.W.kitx_list I.kIn ⟨_,h1,rfl⟩ e (fun z=>nomatch z) h
 | @tup a xs ea =>
  cases (show u=Value.ref a from rx)
  obtain⟨_,_,_,p⟩:=(show ObjOk X.prog X.w H s.heap a (.tup xs) from I.hok a _ ea)
  obtain⟨o,h1,h2,_⟩:=p
  exact PySem.W.kia_one PySem.W.kitx_tuple I.kIn ⟨o,h1,h2⟩ e (fun z=>nomatch z) h
 | @dK a kvs ea =>
  cases (show u=Value.ref a from rx)
  obtain⟨_,_,vs,_,p⟩:=(show ObjOk X.prog X.w H s.heap a (.dK kvs) from I.hok a _ ea)
  obtain⟨o,es,ep,h1,h2,_⟩:=p
  exact PySem.W.kia_one PySem.W.kitx_dict I.kIn ⟨o,h1,h2.1⟩ e (fun z=>nomatch z) h
 | @dT a kvs ea =>
  cases (show u=Value.ref a from rx)
  obtain⟨_,_,xs,_,o,es,ep,h1,h2,_⟩:=(show ObjOk X.prog X.w H s.heap a (.dT kvs) from I.hok a _ ea)
  exact PySem.W.kia_one PySem.W.kitx_dict I.kIn ⟨o,h1,h2.1⟩ e (fun z=>nomatch z) h
 | @ins a C dx fs ea cl ha hn htk hm =>
  cases (show u=Value.ref a from rx)
  obtain⟨mA,O,_⟩:=Qb1 I.hok ea
  obtain⟨od,J,_⟩:=O.look
  exact PySem.W.kia_one (PySem.W.kitx_own (cl.get _) cl.hd ha hn htk hm) I.kIn J e (fun z=>nomatch z) h
end
end L2
namespace L2
open PySem PySem.Spec PyProof.Rows
structure Room (k:Nat) (A:Around):Prop where
 hd:A.handled=none
 dp:A.depth+3*k+5<recursionLimit
 un:A.units+16*k+200<cLine
theorem Room.mono {j k:Nat} {A:Around} (r:Room k A) (h:j≤k):Room j A:=⟨r.hd,by have:=r.dp; omega,by have:=r.un; omega⟩
theorem Room.deeper {k:Nat} {A:Around} (r:Room (k+1) A) (env:Env):Room k (A.deeper env) :=
 ⟨r.hd,by have:=r.dp; show A.depth+1+3*k+5<_; omega,by have:=r.un; show A.units+3+16*k+200<_; omega⟩
theorem Qe3 {A:Around} {C:Addr} {us:List Value} {kw:List (Str×Value)}:(A.under (.builtin "type.__call__" ⟨.ref C::us,kw⟩)).depth=A.depth+1:=by
 first | rfl | simp [Around.under,Code.weight,Code.isCreation,Code.isGuard,Code.isCaller,Code.frames,Code.isFrame,guardIds]
theorem Qe4 {A:Around} {C:Addr} {us:List Value} {kw:List (Str×Value)}:(A.under (.builtin "type.__call__" ⟨.ref C::us,kw⟩)).units=A.units+1:=by
 first | rfl | simp [Around.under,Code.cUnits,Code.frames,Code.isFrame]
theorem Room.make {k:Nat} {A:Around} (r:Room (k+1) A) (C:Addr) (us:List Value) (kw:List (Str×Value)):Room k (A.under (.builtin "type.__call__" ⟨.ref C::us,kw⟩)) :=
 ⟨r.hd,by have:=r.dp; rw [Qe3]; omega,by have:=r.un; rw [Qe4]; omega⟩
theorem Room.depth {k:Nat} {A:Around} (r:Room k A):A.depth<recursionLimit:=by have:=r.dp; omega
theorem Room.units {k:Nat} {A:Around} (r:Room k A):A.units+64<cLine:=by have:=r.un; omega
noncomputable def tNil:TA:=fun _ H Q=>Q [] H
noncomputable def Qmr (ta:TE) (tr:TA):TA:=fun σ H Q=>ta σ H fun x H1=>tr σ H1 fun xs H2=>Q (x::xs) H2
section
variable {X:Cx} {e:Expr} {es:List Expr} {te:TE} {t:TA} {pos:Pos}
theorem Qel:PA X [] tNil:=fun _ _ _ _ H Q I h=>Calls.spliced_nil ⟨[],H,I,.nil,h⟩
theorem Jx (ha:PE X e te) (hr:PA X es t) (hs:starEach (e::es) X.env=(false,eval e X.env)::starEach es X.env:=by rfl):PA X (e::es) (Qmr te t):=by
 intro pos pins s σ H Q I h
 rw [hs]
 show wpAny _ _ (spliced ((false,eval e X.env)::backTo pos (starEach es X.env))) _ _ s
 refine Calls.spliced_cons (thn (ha pins s σ H _ I h) fun u s1 ⟨x,H1,I1,r1,q1⟩=>?_)
 exact thn (hr pos pins s1 σ H1 _ I1 q1) fun us s2 ⟨xs,H2,I2,r2,q2⟩=>⟨x::xs,H2,I2,.cons r1 r2,q2⟩
noncomputable def tTup (t:TA):TE:=fun σ H Q=>t σ H fun xs H1=>xs.length≤sizeLine∧∀ p,H1 p=none->Q (.ref p) (upd H1 p (.tup xs))
noncomputable def tLst (t:TA):TE:=fun σ H Q=>t σ H fun xs H1=>xs.length≤sizeLine∧∀ p,H1 p=none->Q (.ref p) (upd H1 p (.lst xs))
theorem Qk5 {x1} (h:PA X es t):PE X (.Tuple es x1 pos) (tTup t):=by
 intro pins s σ H Q I hq
 refine wpAny_Tuple_spliced (thn (h pos pins s σ H _ I hq) fun us s1 ⟨xs,H1,I1,r,z,q⟩=>⟨by rw [← r.length]; exact z,?_⟩)
 have hf:H1 s1.heap.objs.size=none:=I1.hok.fresh (Nat.le_refl _)
 refine⟨.ref s1.heap.objs.size,upd H1 s1.heap.objs.size (.tup xs),I1.laid (t':=s1.toks) (fun b u e=>Heap.get?_push_of_some _ e) (Nat.le_refl _) ?_,rfl,q _ hf⟩
 exact⟨z,us,r,⟨_,Heap.get?_push_size _ rfl,rfl,_,rfl⟩⟩
theorem Qk6 (h:PA X es t):PE X (.List es pos) (tLst t):=by
 intro pins s σ H Q I hq
 refine wpAny_List_spliced (thn (h pos pins s σ H _ I hq) fun us s1 ⟨xs,H1,I1,r,z,q⟩=>⟨by rw [← r.length]; exact z,?_⟩)
 have hf:H1 s1.heap.objs.size=none:=I1.hok.fresh (Nat.le_refl _)
 refine⟨.ref s1.heap.objs.size,upd H1 s1.heap.objs.size (.lst xs),I1.laid (t':=s1.toks) (fun b u e=>Heap.get?_push_of_some _ e) (Nat.le_refl _) ?_,rfl,q _ hf⟩
 exact⟨z,us,0,r,Heap.get?_push_size _ rfl⟩
end
noncomputable abbrev Sp:=List V->Hp->VK->XK->Prop
noncomputable abbrev CXT:=List Env->Hp->Shared->XK->Value->Shared->Prop
structure Env0 (P:Program) (w:World) (K:PySem.W.Frag) (mg:Str->Option Value) (base:Heap) (A:Around) (outer:List Env) (s:Shared) (H:Hp):Prop where
 frames:A.frames=some outer
 mod:Mod K mg base
 bs:∀ b o,base.get? b=some o->s.heap.get? b=some o∧H b=none
 bsz:base.objs.size≤s.heap.objs.size
 funs:s.heap.FunFrames base outer
 frf:∀ b∈frs outer,H b=none
 hok:HOk P w H s.heap
 bare:AllBare s.gens
noncomputable def CE (outer:List Env) (P:Program) (w:World) (H:Hp) (s:Shared) (Q:VK) (u:Value) (s':Shared):Prop :=
 ∃ v H',s'.os=s.os∧AllBare s'.gens∧Un (frs outer) [] H H' s.heap s'.heap∧HOk P w H' s'.heap∧RelV v u∧Q v H'
noncomputable def CR (CX:CXT) (outer:List Env) (P:Program) (w:World) (H:Hp) (s:Shared) (Q:VK) (E:XK) (r:Result) (s':Shared):Prop :=
 match r with
 | .ok (.ret u)=>CE outer P w H s Q u s'
 | .ok _=>False
 | .error e=>CX outer H s E e s'
structure FnOk (P:Program) (w:World) (K:PySem.W.Frag) (mg:Str->Option Value) (base:Heap) (CX:CXT) (k:Nat) (f:Addr) (fd:FuncData) (ps:List Str) (sp:Sp):Prop where
 len:∀ vs H Q E,sp vs H Q E->vs.length=ps.length
 run:∀(A:Around) (outer:List Env) (s:Shared) (H:Hp) (args:Args) (us:List Value) (vs:List V) (Q:VK) (E:XK),Room k A->Env0 P w K mg base A outer s H->BindsTo s fd args (ps.zip us)->Vals vs us->sp vs H Q E ->
  codeAny (model P w) A (.call (.ref f) args) (CR CX outer P w H s Q E) s
theorem Env0.make {P:Program} {w:World} {K:PySem.W.Frag} {mg:Str->Option Value} {base:Heap} {A:Around} {outer:List Env} {s:Shared} {H:Hp} (e:Env0 P w K mg base A outer s H) (C:Addr) (us:List Value) (kw:List (Str×Value)) :
  Env0 P w K mg base (A.under (.builtin "type.__call__" ⟨.ref C::us,kw⟩)) outer s H:=⟨by first | exact e.frames | (simpa [Around.under,Code.envs,Code.isFrame,pushEnvs] using e.frames),e.mod,e.bs,e.bsz,e.funs,e.frf,e.hok,e.bare⟩
section
variable {X:Cx} {pins:List (Addr×Obj)} {σ:St} {H:Hp} {s s':Shared}
theorem Inv.env0 (I:Inv X pins σ H s):Env0 X.prog X.w X.K X.mg X.base X.A X.stack s H :=
 ⟨I.ok.frames,I.ok.mod,I.bs,Nat.le_trans I.ok.bsz I.sz,I.stack,I.stkFree,I.hok,I.bare⟩
theorem Inv.after {Q:VK} {u:Value} (I:Inv X pins σ H s) (h:CE X.stack X.prog X.w H s Q u s'):EP X pins σ Q u s':=by
 obtain⟨v,H',os,bare,un,hok,r,q⟩:=h
 obtain⟨hh,g,d,t,os'⟩:=s'
 obtain rfl:os'=s.os:=os
 exact⟨v,H',I.call (h':=hh) (g':=g) (d':=d) (t':=t) (ch:=[]) un hok bare (fun b z=>absurd z (by simp)),r,q⟩
end
noncomputable def Binds (K:PySem.W.Frag) (fd:FuncData) (ps:List Str) (ds:List Value):Prop :=
 ∀(s:Shared) (us:List Value),K.In s.heap->(us++ds).length=ps.length->BindsTo s fd ⟨us,[]⟩ (ps.zip (us++ds))
theorem Binds.all {K:PySem.W.Frag} {fd:FuncData} {ps:List Str} (h:∀ us:List Value,us.length=ps.length->bindArgs fd ⟨us,[]⟩=pure (ps.zip us)):Binds K fd ps []:=fun s us _ hl=>by
 rw [List.append_nil] at hl ⊢
 exact .of_eq (h us hl)
section
variable {X:Cx} {CX:CXT} {k:Nat} {f C:Addr} {fd:FuncData} {ps:List Str} {sp:Sp} {dvs:List V} {ds:List Value} {E:XK} {x m:Str} {p pos apos:Pos} {e o:Expr} {es:List Expr} {ta:TE} {t:TA}
structure Mk (K:PySem.W.Frag) (C f:Addr):Prop where
 makes:PySem.W.makesIn K C=true
 init:PySem.W.findIn K (.ref C) "__init__" = some (some (.ref f))
 fn:PySem.W.isFn K (.ref f)=true
 kp:PySem.W.keepIn K (.ref C)=true
end
section
variable {X:Cx} {CX:CXT} {k:Nat} {f C:Addr} {fd:FuncData} {ps ks:List Str} {sp:Sp} {E:XK} {x m:Str} {p pos apos kpos:Pos} {e o:Expr} {es:List Expr} {kws:List Keyword} {te ta:TE} {t tk:TA} {nm:Option Str}
variable {g:List Value->List Value->List Value} {gV:List V->List V->List V}
end
structure FnScope (N P:List Str) (sc:Scope):Prop where
 kind:sc.kind=.function
 co:sc.isCoroutine=false
 gen:sc.isGenerator=false
 nd:N.Nodup
 pre:N.take P.length=P
 par:∀ x∈P,sc.names.lookup x=some .local∨sc.names.lookup x=some .cell
 nofree:∀ y∈sc.names,y.2≠.free
theorem QcG {kindOf:Str->Option NameKind} {x:Str}:∀ {binds:List (Str×Value)} {m:Str->Option Value},(∀ v,(x,v)∉binds)->bindL kindOf binds m x=m x
 | [],_,_=>rfl
 | (n,v)::r,m,h=>by
  unfold bindL
  rw [QcG fun w hw=>h w (List.mem_cons_of_mem _ hw)]
  split
  ·have:x≠n:=by rintro rfl; exact h v List.mem_cons_self
   simp [this]
  ·rfl
theorem QcH {kindOf:Str->Option NameKind} {x:Str}:∀ {binds:List (Str×Value)} {m:Str->Option Value},(∀ v,(x,v)∉binds)->bindC kindOf binds m x=m x
 | [],_,_=>rfl
 | (n,v)::r,m,h=>by
  unfold bindC
  rw [QcH fun w hw=>h w (List.mem_cons_of_mem _ hw)]
  split
  ·rfl
  ·have:x≠n:=by rintro rfl; exact h v List.mem_cons_self
   simp [this]
theorem QcI {kindOf:Str->Option NameKind} {x:Str} {v:Value}:∀ {P:List Str} {vs:List Value} {i:Nat} {m:Str->Option Value},P.Nodup->P[i]?=some x->vs[i]?=some v->kindOf x=some .local ->
  bindL kindOf (P.zip vs) m x=some v
 | [],_,_,_,_,h,_,_=>by simp at h
 | _::_,[],_,_,_,_,h,_=>by simp at h
 | p::P,w::vs,0,m,nd,h1,h2,hk=>by
  simp at h1 h2; subst h1; subst h2
  show bindL kindOf ((p,w)::P.zip vs) m p=_
  unfold bindL
  rw [QcG fun v hv=>(List.nodup_cons.mp nd).1 (List.of_mem_zip hv).1,if_pos hk]
  simp
 | p::P,w::vs,i+1,m,nd,h1,h2,hk=>by
  show bindL kindOf ((p,w)::P.zip vs) m x=_
  unfold bindL
  exact QcI (i:=i) (List.nodup_cons.mp nd).2 (by simpa using h1) (by simpa using h2) hk
theorem QcJ {kindOf:Str->Option NameKind} {x:Str} {v:Value}:∀ {P:List Str} {vs:List Value} {i:Nat} {m:Str->Option Value},P.Nodup->P[i]?=some x->vs[i]?=some v->kindOf x≠some .local ->
  bindC kindOf (P.zip vs) m x=some v
 | [],_,_,_,_,h,_,_=>by simp at h
 | _::_,[],_,_,_,_,h,_=>by simp at h
 | p::P,w::vs,0,m,nd,h1,h2,hk=>by
  simp at h1 h2; subst h1; subst h2
  show bindC kindOf ((p,w)::P.zip vs) m p=_
  unfold bindC
  rw [QcH fun v hv=>(List.nodup_cons.mp nd).1 (List.of_mem_zip hv).1,if_neg hk]
  simp
 | p::P,w::vs,i+1,m,nd,h1,h2,hk=>by
  show bindC kindOf ((p,w)::P.zip vs) m x=_
  unfold bindC
  exact QcJ (i:=i) (List.nodup_cons.mp nd).2 (by simpa using h1) (by simpa using h2) hk
noncomputable def start (N:List Str) (vs:List V):St:=vs.map some++List.replicate (N.length - vs.length) none
noncomputable def cxOf (CX:CXT) (P:Program) (w:World) (K:PySem.W.Frag) (mg:Str->Option Value) (base:Heap) (N:List Str) (qual:Str) (scope:Scope) (f:Addr) (cd:Value) (A:Around) (outer:List Env) (s:Shared) (H:Hp) (E:XK):Cx where
 prog:=P
 w:=w
 K:=K
 mg:=mg
 base:=base
 A:=A.deeper (envOfC qual scope s.heap.objs.size f cd)
 N:=N
 s₀:=s
 H₀:=H
 env:=envOfC qual scope s.heap.objs.size f cd
 outer:=outer
 stack:=envOfC qual scope s.heap.objs.size f cd::outer
 ex:=[]
 calm:=true
 fn:=fun _=>true
 pn:=[]
 xe:=fun e s'=>wpAny (model P w) (A.deeper (envOfC qual scope s.heap.objs.size f cd)) (leaving (envOfC qual scope s.heap.objs.size f cd) e) (fun _ s''=>CX outer H s E e s'') (fun e' s''=>CX outer H s E e' s'') s'
theorem Qem {sc:Scope} {n:Nat} {x:Str} (h:sc.names.lookup x=some .cell):∃ c,(cellsFrom n sc.names []).lookup x=some c:=by
 have q:=PySem.W.cellsFrom_some sc.names n [] (.inl h)
 exact Option.isSome_iff_exists.mp q
theorem QfY {CX:CXT} {P:Program} {w:World} {K:PySem.W.Frag} {mg:Str->Option Value} {base:Heap} {N ps:List Str} {qual:Str} {scope:Scope} {f:Addr} {cd:Value} {A:Around} {outer:List Env} {s s1:Shared} {H:Hp} {E:XK} {us:List Value} {vs:List V}
  (S:FnScope N ps scope) (hd:A.handled=none) (e0:Env0 P w K mg base A outer s H) (hl:vs.length=ps.length) (r:Vals vs us)
  (x:InCallC s s.heap.objs.size (bindL (envOfC qual scope s.heap.objs.size f cd).kindOf (ps.zip us) fun _=>none) (cellsFrom (s.heap.objs.size+1) scope.names []) (bindC (envOfC qual scope s.heap.objs.size f cd).kindOf (ps.zip us) fun _=>none) s1) :
  Inv (cxOf CX P w K mg base N qual scope f cd A outer s H E) [] (start N vs) H s1:=by
 have hpl:ps.length≤N.length:=by have:=congrArg List.length S.pre; rw [List.length_take] at this; omega
 obtain⟨h1,tk,rfl,hk⟩:=x.done
 have noA:∀ b:Addr,b∉(cxOf CX P w K mg base N qual scope f cd A outer s H E).ex:=fun b z=>absurd (show b∈([]:List Addr) from z) (by simp)
 refine⟨⟨e0.mod,S.kind,rfl,rfl,Nat.le_refl _,fun y z c h1 h2=>?_,fun y hy=>?_,fun y c _ h=>?_,fun _=>hd,Around.frames_deeper e0.frames,.inr ⟨rfl,rfl⟩,fun b z=>absurd z (noA b),e0.bs,e0.bsz,fun b _ _=>noA b,fun b z=>absurd z (noA b),e0.funs,e0.frf⟩,
  rfl,e0.bare,Un.kept hk,⟨_,x.toInCall.ns,fun i y v h1 h2 h3=>?_⟩,fun y c h=>⟨_,x.cell y c h⟩,e0.hok.fresh (Nat.le_refl _),fun y c h=>?_,fun p hp=>absurd (show p∈([]:List (Addr×Obj)) from hp) (by simp),e0.hok.kept hk,?_⟩
 ·exact name_of_addr x.apart (PySem.mem_of_lookup h1) (PySem.mem_of_lookup h2)
 ·have hy:scope.names.lookup y=some .cell∨scope.names.lookup y=some .free:=hy
  rcases hy with hy | hy
  ·exact Qem hy
  ·exact absurd rfl (S.nofree _ (PySem.mem_of_lookup hy))
 ·exact Nat.le_of_lt (x.above y c (PySem.mem_of_lookup h))
 ·have hi:i<vs.length:=by
   unfold start at h2
   by_cases hi:i<vs.length
   ·exact hi
   ·rw [List.getElem?_append_right (by simpa using hi)] at h2
    rw [List.getElem?_replicate] at h2
    split at h2 <;> cases h2
  have ha:vs[i]?=some v:=by
   unfold start at h2
   rw [List.getElem?_append_left (by simpa using hi),List.getElem?_map] at h2
   cases e:vs[i]? with
   | none=>rw [e] at h2; cases h2
   | some a=>rw [e] at h2; cases h2; rfl
  obtain⟨u,hu,rv⟩:=r.get ha
  have hp:ps[i]?=some y:=by
   rw [← S.pre,List.getElem?_take_of_lt (by omega)]; exact h1
  have ndP:ps.Nodup:=by rw [← S.pre]; exact S.nd.sublist (List.take_sublist _ _)
  refine⟨u,rv,?_⟩
  rcases S.par y (List.mem_of_getElem? hp) with k | k
  ·exact .inl ⟨k,QcI ndP hp hu k⟩
  ·obtain⟨c,e⟩:=Qem (n:=s.heap.objs.size+1) k
   refine .inr ⟨.inl k,c,e,?_⟩
   have q:=x.cell y c e
   rw [QcJ ndP hp hu (by show scope.names.lookup y≠_; rw [k]; decide)] at q
   exact q
 ·exact e0.hok.fresh (Nat.le_of_lt (x.above y c (PySem.mem_of_lookup h)))
 ·unfold start
  show _=N.length
  rw [List.length_append,List.length_map,List.length_replicate]
  omega
theorem Qms {CX:CXT} {P:Program} {w:World} {K:PySem.W.Frag} {mg:Str->Option Value} {base:Heap} {k:Nat} {f:Addr} {name qual:Str} {params:Arguments} {body:List Stmt} {scope:Scope} {dV kV doc pm cdv ct oc:Value} {an od:Option Addr}
  {osl:Array (Option Value)} {N ps:List Str} {sp:Sp} (lk:K.lookup f=some ⟨oc,od,.func (PySem.W.fnOf name qual params body scope dV kV doc pm an cdv ct),osl⟩) (hcd:PySem.W.codeIn K cdv qual=true) (S:FnScope N ps scope)
  (len:∀ vs H Q E,sp vs H Q E->vs.length=ps.length)
  (hbody:∀(A:Around) (outer:List Env) (s:Shared) (H:Hp) (vs:List V) (Q:VK) (E:XK),Room k (A.deeper (envOfC qual scope s.heap.objs.size f cdv))->sp vs H Q E ->
   ∃ t,PSs (cxOf CX P w K mg base N qual scope f cdv A outer s H E) body t∧t { nx:=fun _ H'=>Q .non H',rt:=Q } (start N vs) H) :
  FnOk P w K mg base CX (k+1) f (PySem.W.fnOf name qual params body scope dV kV doc pm an cdv ct) ps sp:=by
 refine⟨len,fun A outer s H args us vs Q E hr e0 hb r hsp=>?_⟩
 have hl:=len _ _ _ _ hsp
 have KX:K.In s.heap:=e0.mod.kin.keeps fun b o e=>(e0.bs b o e).1
 have lim:s.heap.NoLimit:=e0.mod.nolimit.keeps fun b o e=>(e0.bs b o e).1
 have hkind:∀ y∈ps.zip us,scope.names.lookup y.1=some .local∨(scope.names.lookup y.1=some .cell∧((cellsFrom (s.heap.objs.size+1) scope.names []).lookup y.1).isSome=true):=fun⟨n,v⟩ hy=>by
  rcases S.par n (List.of_mem_zip hy).1 with q | q
  ·exact .inl q
  ·exact .inr ⟨q,PySem.W.cellsFrom_some _ _ _ (.inl q)⟩
 refine codeAny_call_function hr.depth (KX _ _ lk) rfl S.co S.gen rfl (PySem.W.codeRec_of KX hcd) (hb _ _ _ _ ?_)
 refine wpAny_newFunctionEnv_cells S.kind hkind fun env he s1 x=>?_
 subst he
 refine⟨lim.keeps x.toInCall.keep,codeAny_func ?_⟩
 obtain⟨t,ht,hq⟩:=hbody A outer s H vs Q E (hr.deeper _) hsp
 have I:Inv (cxOf CX P w K mg base N qual scope f cdv A outer s H E) [] (start N vs) H s1:=QfY S hr.hd e0 hl r x
 refine wpAny_mono (ht [] s1 (start N vs) H _ I hq) (fun fl s' hs=>?_) fun e s' hs=>hs
 have fin:∀ {σ':St} {H':Hp} {v:V} {u:Value},Inv (cxOf CX P w K mg base N qual scope f cdv A outer s H E) [] σ' H' s'->RelV v u->Q v H'->CE outer P w H s Q u s' :=
  fun {σ' H' v u} J rv q=>⟨v,H',J.os,J.bare,J.base,J.hok,rv,q⟩
 cases fl with
 | ret u =>
  obtain⟨v,σ',H',J,rv,q⟩:=hs
  exact fin J rv q
 | next =>
  obtain⟨σ',H',J,q⟩:=hs
  exact fin (v:=V.non) (u:=Value.none) J rfl q
 | brk =>
  obtain⟨_,_,_,q⟩:=hs
  exact False.elim q
 | cont =>
  obtain⟨_,_,_,q⟩:=hs
  exact False.elim q
end L2
namespace L2
open PySem PySem.Spec PyProof.Rows
section
variable {X:Cx} {x:Str} {p pos:Pos} {e:Expr} {es:List Expr} {t:TA} {id T:String} {r:List V->Hp->VK->Prop}
noncomputable def tCB (r:List V->Hp->VK->Prop) (t:TA):TE:=fun σ H Q=>t σ H fun vs H1=>r vs H1 Q
theorem QaF (hc:Qac X (.builtin id) r) (hg:Gl X x) (hm:X.mg x=none) (hv:bootBuiltins x=some (.builtin id)) (ha:PA X (e::es) t) (hn:x ≠ "__name__":=by decide) (hdb:(x == ("__debug__" : Str))=false:=by decide)
  (he:starEach (e::es) X.env=(false,eval e X.env)::starEach es X.env:=by rfl) (hpl:(backTo pos (starEach es X.env)).any (·.1)=false:=by rfl):PE X (.Call (.Name x p) (e::es) [] pos) (tCB r t):=by
 intro pins s σ H Q I h
 refine wpAny_Call_Name_kw (Qas I hg hm hv ?_ hn hdb)
 exact PyProof.Rows.callWith_builtin1 (thn (ha pos pins s σ H _ I h) fun us s1 ⟨vs,H1,I1,r1,q1⟩=>hc pins s1 σ H1 vs us Q I1 r1 q1) he hpl
theorem QfZ (hc:Qac X (.type T) r) (hg:Gl X x) (hm:X.mg x=none) (hv:bootBuiltins x=some (.type T)) (ha:PA X (e::es) t) (hn:x ≠ "__name__":=by decide) (hdb:(x == ("__debug__" : Str))=false:=by decide)
  (he:starEach (e::es) X.env=(false,eval e X.env)::starEach es X.env:=by rfl) (hpl:(backTo pos (starEach es X.env)).any (·.1)=false:=by rfl):PE X (.Call (.Name x p) (e::es) [] pos) (tCB r t):=by
 intro pins s σ H Q I h
 refine wpAny_Call_Name_kw (Qas I hg hm hv ?_ hn hdb)
 exact PyProof.Rows.callWith_type1 (thn (ha pos pins s σ H _ I h) fun us s1 ⟨vs,H1,I1,r1,q1⟩=>hc pins s1 σ H1 vs us Q I1 r1 q1) he hpl
end
end L2
namespace HT
open PySem PyProof.Rows
section
open PySem.SeqAt
open PySem.AutoSeq1 (wpAny_loadPart')
open PySem.MeetsSeq PySem.MeetsSeq2 PySem.MeetsSeq3
end
section
variable {prog:Program} {w:World} {A:Around} {E:Value->Shared->Prop} {s:Shared}
theorem cat_tup {t b:Addr} {vs ws:List Value} {Q:Value->Shared->Prop} (ht:IsTup s.heap t vs.toArray) (hb:IsTup s.heap b ws.toArray) (hv:vs≠[])
  (h1:ws=[]->Q (.ref t) s) (h2:ws≠[]->Q (.ref s.heap.objs.size) { s with heap:=s.heap.push { cls:=.type "tuple",data:=.seq (vs++ws).toArray } })
  (hsz:vs.length+ws.length≤sizeLine):wpAny (model prog w) A (binaryOp .Add (.ref t) (.ref b)) Q E s:=by
 obtain⟨⟨cls,dd,data,sl⟩,ho,hc,n,hd⟩:=id ht
 obtain⟨⟨cls2,dd2,data2,sl2⟩,ho2,hc2,n2,hd2⟩:=id hb
 simp only at hc hd hc2 hd2
 subst hc hd hc2 hd2
 have e:vs.toArray++ws.toArray=(vs++ws).toArray:=by simp
 by_cases hw:ws=[]
 ·exact concat_meets ⟨_,ho,rfl⟩ ⟨_,ho2,rfl⟩ noFill_tuple_add seq_tuple_add PySem.F.slot_tuple_add PySem.F.entry_tuple_add (PySem.F.args_tuple_add_2 _ _)
   (tuple_addW1 t b vs.toArray ws.toArray n n2 dd dd2 sl sl2 (by simpa using hv) (by simp [hw])) ⟨ho,ho2,h1 hw⟩
 ·refine concat_meets ⟨_,ho,rfl⟩ ⟨_,ho2,rfl⟩ noFill_tuple_add seq_tuple_add PySem.F.slot_tuple_add PySem.F.entry_tuple_add (PySem.F.args_tuple_add_2 _ _)
   (tuple_addW2 t b vs.toArray ws.toArray n n2 dd dd2 sl sl2 (by simpa using hv) (by simpa using hw) (by rw [List.size_toArray,List.size_toArray]; exact hsz)) ⟨ho,ho2,?_⟩
  rw [e]
  exact h2 hw
noncomputable def sIx (n d:Nat):Option Int->Nat
 | none=>d
 | some v=>if v<0 then (v+(n:Int)).toNat else min v.toNat n
theorem Qk7 (n d:Nat) (hd:d≤n) (o:Option Int):sIx n d o≤n:=by
 cases o with
 | none=>exact hd
 | some v =>
  show(if v<0 then (v+(n:Int)).toNat else min v.toNat n)≤n
  by_cases hv:v<0
  ·rw [if_pos hv]; omega
  ·rw [if_neg hv]; exact Nat.min_le_right _ _
theorem Qf0 (v:Int) (n d:Nat):(if v<0 then max (v+(n:Int)) 0 else min v (n:Int))=((sIx n d (some v):Nat):Int):=by
 show(if v<0 then max (v+(n:Int)) 0 else min v (n:Int))=(((if v<0 then (v+(n:Int)).toNat else min v.toNat n):Nat):Int)
 by_cases hv:v<0
 ·simp only [if_pos hv]; omega
 ·simp only [if_neg hv]; omega
theorem Qe5 (lo hi:Option Int) (n:Nat):Builtin.Slice.sliceAdjust lo hi 1 (n:Int)=(((sIx n 0 lo:Nat):Int),((sIx n n hi:Nat):Int)):=by
 have h1:¬ ((1:Int)<0):=by omega
 unfold Builtin.Slice.sliceAdjust
 simp only [h1,if_false]
 refine Prod.ext ?_ ?_
 ·cases lo with
  | none=>rfl
  | some v=>exact Qf0 v n 0
 ·cases hi with
  | none=>rfl
  | some v=>exact Qf0 v n n
theorem Qe6 (i j:Nat):Builtin.Slice.slicePlaces (i:Int) (j:Int) 1=j - i:=by
 unfold Builtin.Slice.slicePlaces
 have h1:(1:Int) > 0:=by omega
 simp only [h1,if_true,Int.ediv_one]
 split <;> omega
theorem QbE {v:Value} {o:Option Int} {Q:Option Int->Shared->Prop} (p:IsPart v o) (h:Q o s):wpAny (model prog w) A (Builtin.Slice.slicePartIndex v) Q E s:=by
 cases p with
 | none=>exact slicePart_none h
 | int i t=>exact slicePart_int h
theorem sliceApplied_gen {sl:Addr} {vl vu:Value} {lo hi:Option Int} {n:Nat} {Q:Int×Int×Nat->Shared->Prop} (hs:s.heap.IsSliceOf sl vl vu .none) (pl:IsPart vl lo) (pu:IsPart vu hi)
  (h:Q (((sIx n 0 lo:Nat):Int),1,sIx n n hi - sIx n 0 lo) s):wpAny (model prog w) A (Builtin.Slice.sliceApplied (.ref sl) (pure (n:Int))) Q E s:=by
 obtain⟨os,hos,hcs,hds⟩:=id hs
 unfold Builtin.Slice.sliceApplied Builtin.Slice.sliceFields
 refine wpAny_bind (wpAny_bind (wpAny_field hos hds (x:=vl) rfl (wpAny_bind (wpAny_field hos hds (x:=vu) rfl (wpAny_bind (wpAny_field hos hds (x:=.none) rfl (wpAny_pure ?_)))))))
 refine wpAny_bind (slicePart_none ?_)
 show wpAny _ _ (if ((1:Int) == 0)=true then _ else _) _ _ s
 rw [if_neg (by decide)]
 refine wpAny_bind (QbE pl (wpAny_bind (QbE pu (wpAny_bind (wpAny_pure ?_)))))
 show wpAny _ _ (match Builtin.Slice.sliceAdjust lo hi 1 (n:Int) with | (lo,hi)=>pure (lo,(1:Int),Builtin.Slice.slicePlaces lo hi 1)) _ _ s
 rw [Qe5 lo hi n]
 show wpAny _ _ (pure (((sIx n 0 lo:Nat):Int),(1:Int),Builtin.Slice.slicePlaces ((sIx n 0 lo:Nat):Int) ((sIx n n hi:Nat):Int) 1)) _ _ s
 rw [Qe6]
 exact wpAny_pure h
theorem QhA (xs:Array Value) (i k:Nat):((List.range k).filterMap fun(m:Nat)=>xs[((i:Int)+(m:Int)*1).toNat]?).toArray=((xs.toList.drop i).take k).toArray:=by
 have e:(fun(m:Nat)=>xs[((i:Int)+(m:Int)*1).toNat]?)=fun m=>xs[i+m]?:=by
  funext m
  have:((i:Int)+(m:Int)*1).toNat=i+m:=by omega
  rw [this]
 rw [e]
 have:=pick_run xs i k
 rw [List.filterMap_map] at this
 have e2:((fun x=>xs[x]?) ∘ fun x=>i+x)=fun m=>xs[i+m]?:=rfl
 rw [e2] at this
 rw [this]
theorem getItem_tuple_cut {t sl:Addr} {items:Array Value} {vl vu:Value} {lo hi:Option Int} {Q:Value->Shared->Prop} (ht:IsTup s.heap t items) (hs:s.heap.IsSliceOf sl vl vu .none) (pl:IsPart vl lo) (pu:IsPart vu hi)
  (hw:¬ (sIx items.size 0 lo=0∧sIx items.size items.size hi=items.size))
  (h:Q (.ref s.heap.objs.size) { s with heap:=s.heap.push { cls:=.type "tuple",data:=.seq ((items.toList.drop (sIx items.size 0 lo)).take (sIx items.size items.size hi - sIx items.size 0 lo)).toArray } })
  (hsz:items.size≤sizeLine):wpAny (model prog w) A (getItem (.ref t) (.ref sl)) Q E s:=by
 have htake:sizeOk (.seq ((items.toList.drop (sIx items.size 0 lo)).take (sIx items.size items.size hi - sIx items.size 0 lo)).toArray):=by
  show((items.toList.drop (sIx items.size 0 lo)).take (sIx items.size items.size hi - sIx items.size 0 lo)).toArray.size≤sizeLine
  rw [List.size_toArray,List.length_take,List.length_drop,Array.length_toList]
  omega
 have hj:sIx items.size items.size hi≤items.size:=Qk7 _ _ (Nat.le_refl _) hi
 obtain⟨os,hos,hcs,hds⟩:=id hs
 have hTs:s.TypeIs (.ref sl) "slice":=⟨os,hos,hcs⟩
 unfold getItem
 try with_reducible refine wpAny_holding ?_
 first | refine wpAny_bind (wpAny_pure ?_) | skip
 refine wpAny_bind (wpAny_sequenceKey ht.typeIs (by decide) ?_)
 refine wpAny_bind (wpAny_callSpecial?_slot (name:=Str.ofString "__getitem__") ht.typeIs PyProof.Rows.slot_tuple_getitem
  (wpAny_call_entry PyProof.Rows.slot_tuple_getitem ht.typeIs entry_tuple_getitem ?_ (args_tuple_getitem _ _)))
 show wpAny _ _ (Builtin.Tuple.tupleItemsOf (.ref t) >>= _) _ _ s
 refine wpAny_bind (tupleItemsOf_ ht ?_)
 refine wpAny_bind (wpAny_typeOf hTs ?_)
 rw [if_pos (by decide)]
 refine wpAny_bind (sliceApplied_gen hs pl pu ?_)
 have hno:¬ ((((sIx items.size 0 lo:Nat):Int) == 0 && (1:Int) == 1 && (sIx items.size items.size hi - sIx items.size 0 lo) == items.size)=true):=by
  intro q
  rw [Bool.and_eq_true,Bool.and_eq_true] at q
  have q1:((sIx items.size 0 lo:Nat):Int)=0:=eq_of_beq q.1.1
  have q2:sIx items.size items.size hi - sIx items.size 0 lo=items.size:=eq_of_beq q.2
  exact hw ⟨by omega,by omega⟩
 show wpAny _ _ (if (((sIx items.size 0 lo:Nat):Int) == 0 && (1:Int) == 1 && (sIx items.size items.size hi - sIx items.size 0 lo) == items.size)=true then _ else _) _ _ s
 rw [if_neg hno,QhA]
 first
  | exact wpAny_bind (m:=Builtin.Tuple.tupleExact _) (wpAny_newObj_type (wpAny_pure ⟨_,rfl,wpAny_pure h⟩) htake)
  | exact wpAny_bind (m:=Builtin.Tuple.tupleExact _) (wpAny_newObj_type (wpAny_bind (wpAny_pure (wpAny_pure ⟨_,rfl,wpAny_pure h⟩))) htake)
  | exact wpAny_bind (wpAny_bind (m:=Builtin.Tuple.tupleExact _) (wpAny_newObj_type (wpAny_pure (wpAny_pure ⟨_,rfl,wpAny_pure h⟩)) htake))
  | exact wpAny_bind (wpAny_bind (m:=Builtin.Tuple.tupleExact _) (wpAny_newObj_type (wpAny_pure ⟨_,rfl,wpAny_pure h⟩) htake))
end
end HT
namespace L2
open PySem PySem.Spec PyProof.Rows
noncomputable abbrev TO:=St->Hp->(Option Int->Hp->Prop)->Prop
noncomputable def PO (X:Cx) (e:Option Expr) (t:TO):Prop :=
 ∀(pins:List (Addr×Obj)) (s:Shared) (σ:St) (H:Hp) (Q:Option Int->Hp->Prop),Inv X pins σ H s->t σ H Q ->
  wpAny (model X.prog X.w) X.A (evalPart e X.env) (fun u s'=>∃ o H',Inv X pins σ H' s'∧IsPart u o∧Q o H') X.xe s
noncomputable def Qjo:TO:=fun _ H Q=>Q none H
noncomputable def Qmt (t:TE):TO:=fun σ H Q=>t σ H fun x H1=>∃ i,x=.int i∧Q (some i) H1
section
variable {X:Cx} {e:Expr} {te:TE} {lo hi:Option Expr} {tl th:TO} {pos p2:Pos}
theorem Qjp:PO X none Qjo:=by
 intro pins s σ H Q I h
 rw [evalPart_none]
 exact wpAny_pure ⟨none,H,I,.none,h⟩
theorem Qjq (h:PE X e te):PO X (some e) (Qmt te):=by
 intro pins s σ H Q I hw
 rw [evalPart_some]
 refine thn (h pins s σ H _ I hw) fun u s1 ⟨x,H1,I1,r1,q1⟩=>?_
 obtain⟨i,rfl,q⟩:=q1
 obtain⟨t,rfl⟩:=r1
 exact⟨some i,H1,I1,.int i t,q⟩
noncomputable def SlR (X:Cx) (r:V->Option Int->Option Int->Hp->VK->Prop):Prop :=
 ∀(pins:List (Addr×Obj)) (s:Shared) (σ:St) (H:Hp) (x:V) (v vl vu:Value) (lo hi:Option Int) (sl:Addr) (Q:VK),Inv X pins σ H s->RelV x v->s.heap.IsSliceOf sl vl vu .none->IsPart vl lo->IsPart vu hi->r x lo hi H Q ->
  ∃ T id,typeLookup (.type T) "__getitem__" = pure (some (.builtin id))∧s.TypeIs v T∧wpAny (model X.prog X.w) X.A (getItem v (.ref sl)) (EP X pins σ Q) X.xe s
theorem SlR.or {r r':V->Option Int->Option Int->Hp->VK->Prop} (h:SlR X r) (h':SlR X r'):SlR X (fun x lo hi H Q=>r x lo hi H Q∨r' x lo hi H Q):=by
 intro pins s σ H x v vl vu lo hi sl Q I rx hs pl pu q
 rcases q with q | q
 ·exact h pins s σ H x v vl vu lo hi sl Q I rx hs pl pu q
 ·exact h' pins s σ H x v vl vu lo hi sl Q I rx hs pl pu q
noncomputable def tSl (r:V->Option Int->Option Int->Hp->VK->Prop) (te:TE) (tl th:TO):TE:=fun σ H Q=>te σ H fun x H1=>tl σ H1 fun l H2=>th σ H2 fun u H3=>r x l u H3 Q
theorem QhB {r:V->Option Int->Option Int->Hp->VK->Prop} (hr:SlR X r) (he:PE X e te) (hl:PO X lo tl) (hu:PO X hi th):PE X (.Subscript e (.Slice lo hi none p2) pos) (tSl r te tl th):=by
 intro pins s σ H Q I h
 refine Subscript_ (thn (he pins s σ H _ I h) fun v s1 ⟨x,H1,I1,r1,q1⟩=>?_)
 refine wpAny_Slice (thn (hl pins s1 σ H1 _ I1 q1) fun vl s2 ⟨l,H2,I2,pl,q2⟩=>thn (hu pins s2 σ H2 _ I2 q2) fun vu s3 ⟨u,H3,I3,pu,q3⟩=>?_)
 rw [evalPart_none]
 refine wpAny_pure ?_
 have I4:Inv X pins σ H3 { s3 with heap:=s3.heap.push { cls:=.type "slice",data:=.fields #[vl,vu,.none] } }:=I3.kept (t':=s3.toks) fun b ob q=>Heap.get?_push_of_some _ q
 obtain⟨T,id,hT,ht,hg⟩:=hr pins { s3 with heap:=s3.heap.push { cls:=.type "slice",data:=.fields #[vl,vu,.none] } } σ H3 x v vl vu l u s3.heap.objs.size Q I4 r1 (Heap.IsSliceOf.new ..) pl pu q3
 show wpAny (model X.prog X.w) X.A (subscriptTail e (.Slice lo hi none p2) v (.ref s3.heap.objs.size)) (EP X pins σ Q) X.xe { s3 with heap:=s3.heap.push { cls:=.type "slice",data:=.fields #[vl,vu,.none] } }
 exact tail_any (ops:=[.ref s3.heap.objs.size,v]) ht hT hg (by with_unfolding_all rfl)
noncomputable def cutV (xs:List V) (lo hi:Option Int):List V:=(xs.drop (HT.sIx xs.length 0 lo)).take (HT.sIx xs.length xs.length hi - HT.sIx xs.length 0 lo)
theorem QaV (xs:List V) (lo hi:Option Int):(cutV xs lo hi).length≤xs.length:=by
 unfold cutV
 rw [List.length_take,List.length_drop]
 omega
noncomputable def rSlT (K:PySem.W.Frag):V->Option Int->Option Int->Hp->VK->Prop:=fun x lo hi H Q=>∃ a xs,x=.ref a∧SqT K H a xs ∧
 ¬ (HT.sIx xs.length 0 lo=0∧HT.sIx xs.length xs.length hi=xs.length)∧∀ p,H p=none->Q (.ref p) (upd H p (.tup (cutV xs lo hi)))
theorem sl_tup:SlR X (rSlT X.K):=by
 intro pins s σ H x v vl vu lo hi sl Q I rx hs pl pu h
 obtain⟨a,xs,rfl,hx,hw,q⟩:=h
 cases rx
 obtain⟨its,r,ht,hz⟩:=I.tuple hx
 have hlen:its.toArray.size=xs.length:=by rw [List.size_toArray]; exact r.length.symm
 refine⟨"tuple",_,PyProof.Rows.slot_tuple_getitem.lookup,ht.typeIs,?_⟩
 refine HT.getItem_tuple_cut ht hs pl pu (by rw [hlen]; exact hw) ?_ (by rw [hlen]; exact hz)
 rw [hlen]
 refine⟨.ref s.heap.objs.size,_,I.laid (t':=s.toks) (o:=.tup (cutV xs lo hi)) (fun b ob q=>Heap.get?_push_of_some _ q) (Nat.le_refl _) ?_,rfl,q _ (I.hok.fresh (Nat.le_refl _))⟩
 exact⟨Nat.le_trans (QaV xs lo hi) hz,_,(r.drop (HT.sIx xs.length 0 lo)).take (HT.sIx xs.length xs.length hi - HT.sIx xs.length 0 lo),IsTup.new _ _⟩
noncomputable def Qk8 (K:PySem.W.Frag):R2:=fun x y H Q=>∃ a b xs ys,x=.ref a∧y=.ref b∧SqT K H a xs∧SqT K H b ys∧xs≠[]∧xs.length+ys.length≤sizeLine ∧
 (ys=[]->Q (.ref a) H)∧(ys≠[]->∀ p,H p=none->Q (.ref p) (upd H p (.tup (xs++ys))))
theorem Vals.nil_iff {xs:List V} {us:List Value} (r:Vals xs us):us=[]↔xs=[]:=by
 cases r with
 | nil=>simp
 | cons _ _=>simp
theorem Qjr:OpR X (binaryOp .Add) (Qk8 X.K):=by
 intro pins s σ H x y v u Q I rx ry h
 obtain⟨a,b,xs,ys,rfl,rfl,ha,hb,hx,hz,q1,q2⟩:=h
 cases rx
 cases ry
 obtain⟨its,r1,p1,_⟩:=I.tuple ha
 obtain⟨its2,r2,p2,_⟩:=I.tuple hb
 refine HT.cat_tup p1 p2 (fun z=>hx (r1.nil_iff.mp z)) (fun z=>⟨.ref a,H,I,rfl,q1 (r2.nil_iff.mp z)⟩) (fun z=>?_) (by rw [← r1.length,← r2.length]; exact hz)
 refine⟨.ref s.heap.objs.size,_,I.laid (t':=s.toks) (o:=.tup (xs++ys)) (fun b ob q=>Heap.get?_push_of_some _ q) (Nat.le_refl _) ?_,rfl,q2 (fun w=>z (r2.nil_iff.mpr w)) _ (I.hok.fresh (Nat.le_refl _))⟩
 exact⟨by rw [List.length_append]; exact hz,_,r1.append r2,IsTup.new _ _⟩
end
end L2
namespace L2
open PySem PySem.Spec PyProof.Rows
noncomputable def ixN (n:Nat) (i:Int):Option Nat:=if 0≤i then (if i<n then some i.toNat else none) else if -(n:Int)≤i then some (i+n).toNat else none
noncomputable def atI {α:Type} (xs:List α) (i:Int):Option α:=(ixN xs.length i).bind fun j=>xs[j]?
theorem Qf1 {n:Nat} {i:Int} {j:Nat} (h:ixN n i=some j):seqIndex? i n=some j∧j<n ∧ -(n:Int)≤i∧i<n:=by
 unfold ixN at h
 by_cases h0:0≤i
 ·rw [if_pos h0] at h
  by_cases h1:i<n
  ·rw [if_pos h1] at h
   have e:i.toNat=j:=Option.some.inj h
   exact⟨by rw [seqIndex_of h0 h1,e],by omega,by omega,h1⟩
  ·rw [if_neg h1] at h; cases h
 ·rw [if_neg h0] at h
  by_cases h1 : -(n:Int)≤i
  ·rw [if_pos h1] at h
   have e:(i+n).toNat=j:=Option.some.inj h
   exact⟨by rw [seqIndex_neg (by omega) h1,e],by omega,h1,by omega⟩
  ·rw [if_neg h1] at h; cases h
theorem QdA {α:Type} {xs:List α} {i:Int} {v:α} (h:atI xs i=some v):∃ j,seqIndex? i xs.length=some j∧xs[j]?=some v∧j<xs.length ∧ -(xs.length:Int)≤i∧i<xs.length:=by
 unfold atI at h
 cases e:ixN xs.length i with
 | none=>rw [e] at h; cases h
 | some j =>
  rw [e] at h
  obtain⟨h1,h2,h3,h4⟩:=Qf1 e
  exact⟨j,h1,h,h2,h3,h4⟩
noncomputable def Qb2 (b:Expr):Prop:=∀ o i,subscripted b false o i=operate [o,i] (getItem o i)
noncomputable def IxR (X:Cx) (r:R2):Prop :=
 ∀(value slice:Expr) (pins:List (Addr×Obj)) (s:Shared) (σ:St) (H:Hp) (x y:V) (v u:Value) (Q:VK),Inv X pins σ H s->RelV x v->RelV y u->r x y H Q ->
  subscripted slice false v u=operate [v,u] (getItem v u)->wpAny (model X.prog X.w) X.A (subscriptTail value slice v u) (EP X pins σ Q) X.xe s
noncomputable def MtR (X:Cx) (id:String) (r:V->List V->Hp->VK->Prop):Prop :=
 ∀(pins:List (Addr×Obj)) (s:Shared) (σ:St) (H:Hp) (x:V) (xs:List V) (v:Value) (us:List Value) (Q:VK),Inv X pins σ H s->RelV x v->Vals xs us->r x xs H Q ->
  wpAny (model X.prog X.w) X.A (call (.builtin id) (v::us)) (EP X pins σ Q) X.xe s
section
variable {X:Cx} {a b:Expr} {ta tb:TE} {pos:Pos}
theorem IxR.or {r r':R2} (h:IxR X r) (h':IxR X r'):IxR X (fun x y H Q=>r x y H Q∨r' x y H Q):=by
 intro value slice pins s σ H x y v u Q I rx ry q hs
 rcases q with q | q
 ·exact h value slice pins s σ H x y v u Q I rx ry q hs
 ·exact h' value slice pins s σ H x y v u Q I rx ry q hs
theorem Qmu {r:R2} (hr:IxR X r) (ha:PE X a ta) (hb:PE X b tb) (hs:Qb2 b):PE X (.Subscript a b pos) (tOp r ta tb):=by
 intro pins s σ H Q I h
 exact Subscript_ (binT ha hb I h fun v u s2 x y H2 I2 rx ry q=>hr a b pins s2 σ H2 x y v u Q I2 rx ry q (hs _ _))
noncomputable def rIxL (K:PySem.W.Frag):R2:=fun x y H Q=>∃ p xs i v,x=.ref p∧y=.int i∧SqL K H p xs∧atI xs i=some v∧Q v H
noncomputable def rIxT (K:PySem.W.Frag):R2:=fun x y H Q=>∃ p xs i v,x=.ref p∧y=.int i∧SqT K H p xs∧atI xs i=some v∧Q v H
noncomputable def rIxS:R2:=fun x y H Q=>∃ z i c,x=.str z∧y=.int i∧z.length≤sizeLine∧atI z.cps.toList i=some c∧Q (.str ⟨#[c]⟩) H
theorem ix_list:IxR X (rIxL X.K):=by
 intro value slice pins s σ H x y v u Q I rx ry h hs
 obtain⟨p,xs,i,z,rfl,rfl,hq,he,q⟩:=h
 cases rx
 obtain⟨t,rfl⟩:=ry
 obtain⟨its,r,pl,hz⟩:=I.list hq
 obtain⟨j,h1,h2,h3,h4,h5⟩:=QdA he
 obtain⟨w,ew,rw'⟩:=r.get h2
 have hl:=r.length
 have hn:=Qat
 have fin:EP X pins σ Q w s:=⟨z,H,I,rw',q⟩
 by_cases h0:0≤i
 ·have hj:i.toNat=j:=by
   rw [seqIndex_of h0 h5] at h1
   exact Option.some.inj h1
  exact item_listR pl.isList h0 (by omega) (by rw [hj]; simpa using ew) fin hs
 ·have hj:(i+(its.toArray.size:Int)).toNat=j:=by
   rw [seqIndex_neg (by omega) h4] at h1
   rw [List.size_toArray,← hl]
   exact Option.some.inj h1
  exact subscriptTail_builtinR (x:=w) pl.isList.typeIs slot_list_getitem.lookup
   (wpAny_getItem_list_neg (Q:=fun r s'=>r=w∧EP X pins σ Q r s') pl.isList (by omega) (by rw [List.size_toArray] <;> omega) (by omega) (by rw [hj]; simpa using ew) ⟨rfl,fin⟩) hs
theorem ix_tup:IxR X (rIxT X.K):=by
 intro value slice pins s σ H x y v u Q I rx ry h hs
 obtain⟨p,xs,i,z,rfl,rfl,hq,he,q⟩:=h
 cases rx
 obtain⟨t,rfl⟩:=ry
 obtain⟨its,r,pl,hz⟩:=I.tuple hq
 obtain⟨j,h1,h2,h3,h4,h5⟩:=QdA he
 obtain⟨w,ew,rw'⟩:=r.get h2
 have hl:=r.length
 have hn:=Qat
 have fin:EP X pins σ Q w s:=⟨z,H,I,rw',q⟩
 exact subscriptTail_builtinR (x:=w) pl.typeIs slot_tuple_getitem.lookup
  (getItem_tuple (j:=j) (Q:=fun r s'=>r=w∧EP X pins σ Q r s') pl (by omega) (by omega) (by rw [List.size_toArray,← hl]; exact h1) (by simpa using ew) ⟨rfl,fin⟩) hs
theorem Qk9:IxR X rIxS:=by
 intro value slice pins s σ H x y v u Q I rx ry h hs
 obtain⟨z,i,c,rfl,rfl,hz,he,q⟩:=h
 obtain⟨t,rfl⟩:=rx
 obtain⟨t',rfl⟩:=ry
 obtain⟨j,h1,h2,h3,h4,h5⟩:=QdA he
 have hl:z.cps.toList.length=z.length:=by simp [Str.length]
 rw [hl] at h1 h4 h5
 have hn:=Qat
 exact tail_any (typeIs_str s z t) slot_str_getitem.lookup (getItem_str (c:=c) (by
  have e1:decide (i < -(2 ^ 63:Int))=false:=decide_eq_false (by omega)
  have e2:decide (i≥2 ^ 63)=false:=decide_eq_false (by omega)
  rw [e1,e2,Bool.or_false]) (by rw [h1]; simpa using h2) ⟨.str ⟨#[c]⟩,H,I.tok _,⟨_,rfl⟩,q⟩) hs
noncomputable def rIx (K:PySem.W.Frag):R2:=fun x y H Q=>rIxL K x y H Q∨rIxT K x y H Q∨rIxS x y H Q
theorem Qla:IxR X (rIx X.K):=ix_list.or (ix_tup.or Qk9)
theorem Qe7 (its:List Value) (n j:Nat) (u:Value):Obj.mapSeq (·.setIfInBounds j u) { cls:=.type "list",data:=.seq its.toArray n } = { cls:=.type "list",data:=.seq (its.set j u).toArray n }:=by
 simp [Obj.mapSeq]
theorem Inv.lst {pins:List (Addr×Obj)} {σ:St} {H:Hp} {s:Shared} {p:Addr} {xs:List V} (I:Inv X pins σ H s) (h:H p=some (.lst xs)) :
  ∃(its:List Value) (n:Nat),Vals xs its∧s.heap.get? p=some { cls:=.type "list",data:=.seq its.toArray n }∧xs.length≤sizeLine:=by
 obtain⟨z,its,n,r,e⟩:=I.hok p _ h
 exact⟨its,n,r,e,z⟩
theorem Inv.lstUpd {pins:List (Addr×Obj)} {σ:St} {H:Hp} {s:Shared} {p:Addr} {xs ys:List V} {its its':List Value} {n n':Nat} {f:Obj->Obj} (I:Inv X pins σ H s) (h:H p=some (.lst xs))
  (ho:s.heap.get? p=some { cls:=.type "list",data:=.seq its.toArray n }) (hf:f { cls:=.type "list",data:=.seq its.toArray n } = { cls:=.type "list",data:=.seq its'.toArray n' }) (r:Vals ys its') (hz:ys.length≤sizeLine) (t:Nat) :
  Inv X pins σ (upd H p (.lst ys)) { s with heap:=s.heap.update p f,toks:=t }:=by
 have e:(s.heap.update p f).get? p=some { cls:=.type "list",data:=.seq its'.toArray n' }:=by
  rw [Heap.get?_update_self f ho (by rw [hf] <;> rfl),hf]
 refine I.write (x:=p) (e:=p) (by rw [h]; trivial) (.inl rfl) (fun b u hb q=>(Heap.get?_update_other _ _ (Ne.symm hb)).trans q) ⟨_,e⟩ ?_
 exact⟨hz,its',n',r,e⟩
noncomputable def Qmv:V->V->V->Hp->(Hp->Prop)->Prop:=fun o i v H Q=>∃ p xs k j,o=.ref p∧i=.int k∧H p=some (.lst xs)∧ixN xs.length k=some j∧Q (upd H p (.lst (xs.set j v)))
theorem QhC:PSet X Qmv:=by
 intro pins s σ H o i v ov iv u Q I ro ri rv h
 obtain⟨p,xs,k,j,rfl,rfl,hp,hj,q⟩:=h
 cases ro
 obtain⟨t,rfl⟩:=ri
 obtain⟨its,n,r,ho,hz⟩:=I.lst hp
 obtain⟨h1,h2,h3,h4⟩:=Qf1 hj
 have hl:=r.length
 have hn:=Qat
 have I':Inv X pins σ (upd H p (.lst (xs.set j v))) { s with heap:=s.heap.update p (Obj.mapSeq (·.setIfInBounds j u)) } :=
  I.lstUpd hp ho (Qe7 its n j u) (r.set rv j) (by rw [List.length_set]; exact hz) s.toks
 by_cases h0:0≤k
 ·have hk:k.toNat=j:=by
   rw [seqIndex_of h0 h4] at h1
   exact Option.some.inj h1
  exact PySem.W.ki_setAt ho h0 (by omega) (by rw [List.size_toArray,← hl]; exact h4) (by rw [hk]; exact⟨_,I',q⟩)
 ·have hk:(k+(its.toArray.size:Int)).toNat=j:=by
   rw [seqIndex_neg (by omega) h3] at h1
   rw [List.size_toArray,← hl]
   exact Option.some.inj h1
  exact PySem.W.ki_setBack ho (by omega) (by rw [List.size_toArray,← hl]; exact h3) (by omega) (by rw [hk]; exact⟨_,I',q⟩)
theorem QcK (lo hi:Option Int) (n:Nat):(sliceBounds lo hi none n).1=((HT.sIx n 0 lo:Nat):Int)∧(sliceBounds lo hi none n).2.1=((HT.sIx n n hi:Nat):Int)∧(sliceBounds lo hi none n).2.2=1:=by
 refine⟨?_,?_,rfl⟩
 ·cases lo with
  | none=>simp [sliceBounds,HT.sIx]
  | some i =>
   simp only [sliceBounds,HT.sIx,Option.getD_none,show(1:Int) > 0 by decide,if_true]
   by_cases h:i<0
   ·simp only [h,if_true] <;> omega
   ·simp only [h,if_false] <;> omega
 ·cases hi with
  | none=>simp [sliceBounds,HT.sIx]
  | some i =>
   simp only [sliceBounds,HT.sIx,Option.getD_none,show(1:Int) > 0 by decide,if_true]
   by_cases h:i<0
   ·simp only [h,if_true] <;> omega
   ·simp only [h,if_false] <;> omega
theorem Qb3 (its:List Value) (lo hi:Option Int):slicePick its.toArray lo hi none=((its.drop (HT.sIx its.length 0 lo)).take (HT.sIx its.length its.length hi - HT.sIx its.length 0 lo)).toArray:=by
 obtain⟨h1,h2,h3⟩:=QcK lo hi its.toArray.size
 unfold slicePick
 rw [h1,h2,h3]
 simp only [sliceRange_one,pick_run,List.size_toArray] <;> rfl
noncomputable def rSlL (K:PySem.W.Frag):V->Option Int->Option Int->Hp->VK->Prop:=fun x lo hi H Q=>∃ a xs,x=.ref a∧SqL K H a xs∧∀ p,H p=none->Q (.ref p) (upd H p (.lst (cutV xs lo hi)))
theorem Qjs:SlR X (rSlL X.K):=by
 intro pins s σ H x v vl vu lo hi sl Q I rx hs pl pu h
 obtain⟨a,xs,rfl,hx,q⟩:=h
 cases rx
 obtain⟨its,r,ht,hz⟩:=I.list hx
 have hlen:=r.length
 refine⟨"list",_,slot_list_getitem.lookup,ht.isList.typeIs,?_⟩
 refine wpAny_getItem_list_slice ht.isList hs pl pu .none (by simp) ?_ (by rw [List.size_toArray] <;> omega)
 rw [Qb3,← hlen]
 refine⟨.ref s.heap.objs.size,_,I.laid (t':=s.toks) (o:=.lst (cutV xs lo hi)) (fun b ob q=>Heap.get?_push_of_some _ q) (Nat.le_refl _) ?_,rfl,q _ (I.hok.fresh (Nat.le_refl _))⟩
 exact⟨Nat.le_trans (QaV xs lo hi) hz,_,0,(r.drop (HT.sIx xs.length 0 lo)).take (HT.sIx xs.length xs.length hi - HT.sIx xs.length 0 lo),Heap.get?_push_size _ rfl⟩
noncomputable def Qbv:V->Bool
 | .non=>true
 | .bl _=>true
 | .int _=>true
 | .str _=>true
 | _=>false
noncomputable def eqV:V->V->Bool
 | .non,.non=>true
 | .bl a,.bl b=>a == b
 | .bl a,.int b=>(if a then 1 else 0) == b
 | .int a,.bl b=>a == (if b then 1 else 0)
 | .int a,.int b=>a == b
 | .str a,.str b=>a == b
 | _,_=>false
theorem Qlb {A:Around} {s:Shared} {y x:V} {u v:Value} (ry:RelV y u) (rx:RelV x v) (fy:Qbv y=true) (fx:Qbv x=true):SeqAt.EqAt A s u v (eqV y x):=by
 cases y with
 | non =>
  cases ry
  cases x with
  | non=>cases rx; exact SeqAt.EqAt.same _
  | bl b=>cases rx; exact SeqAt.EqAt.none_bool b
  | int b=>obtain⟨t,rfl⟩:=rx; exact SeqAt.EqAt.none_int b t
  | str b=>obtain⟨t,rfl⟩:=rx; exact SeqAt.EqAt.none_str b t
  | _=>exact absurd (show false=true from fx) Bool.false_ne_true
 | bl a =>
  cases ry
  cases x with
  | non=>cases rx; exact SeqAt.EqAt.bool_none a
  | bl b=>cases rx; exact SeqAt.EqAt.bool_bool a b
  | int b=>obtain⟨t,rfl⟩:=rx; exact SeqAt.EqAt.bool_int a b t
  | str b=>obtain⟨t,rfl⟩:=rx; exact SeqAt.EqAt.bool_str a b t
  | _=>exact absurd (show false=true from fx) Bool.false_ne_true
 | int a =>
  obtain⟨t',rfl⟩:=ry
  cases x with
  | non=>cases rx; exact SeqAt.EqAt.int_none a t'
  | bl b=>cases rx; exact SeqAt.EqAt.int_bool a t' b
  | int b=>obtain⟨t,rfl⟩:=rx; exact SeqAt.EqAt.int_int a t' b t
  | str b=>obtain⟨t,rfl⟩:=rx; exact SeqAt.EqAt.int_str a t' b t
  | _=>exact absurd (show false=true from fx) Bool.false_ne_true
 | str a =>
  obtain⟨t',rfl⟩:=ry
  cases x with
  | non=>cases rx; exact SeqAt.EqAt.str_none a t'
  | bl b=>cases rx; exact SeqAt.EqAt.str_bool a t' b
  | int b=>obtain⟨t,rfl⟩:=rx; exact SeqAt.EqAt.str_int a t' b t
  | str b=>obtain⟨t,rfl⟩:=rx; exact SeqAt.EqAt.str_str a t' b t
  | _=>exact absurd (show false=true from fx) Bool.false_ne_true
 | _=>exact absurd (show false=true from fy) Bool.false_ne_true
noncomputable def eqU (x:V) (u:Value):Bool:=match u with
 | .none=>eqV .non x
 | .bool b=>eqV (.bl b) x
 | .int i _=>eqV (.int i) x
 | .str z _=>eqV (.str z) x
 | _=>false
theorem QiK {x y:V} {u:Value} (r:RelV y u) (f:Qbv y=true):eqU x u=eqV y x:=by
 cases y with
 | non=>cases r; rfl
 | bl b=>cases r; rfl
 | int i=>obtain⟨t,rfl⟩:=r; rfl
 | str z=>obtain⟨t,rfl⟩:=r; rfl
 | _=>exact absurd (show false=true from f) Bool.false_ne_true
theorem QdB {x:V}:∀ {xs:List V} {us:List Value},Vals xs us->xs.all Qbv=true->us.any (eqU x)=xs.any fun y=>eqV y x
 | _,_,.nil,_=>rfl
 | y::xs,u::us,.cons r t,f=>by
  rw [List.all_cons,Bool.and_eq_true] at f
  rw [List.any_cons,List.any_cons,QiK r f.1,QdB t f.2]
theorem Qb4 {A:Around} {s:Shared} {x:V} {v:Value} (rx:RelV x v) (fx:Qbv x=true):∀ {xs:List V} {us:List Value},Vals xs us->xs.all Qbv=true->∀ u∈us,SeqAt.EqAt A s u v (eqU x u)
 | _,_,.nil,_=>fun u hu=>by cases hu
 | y::xs,u::us,.cons r t,f=>fun u' hu=>by
  rw [List.all_cons,Bool.and_eq_true] at f
  rcases List.mem_cons.mp hu with rfl | hu
  ·rw [QiK r f.1]; exact Qlb r rx f.1 fx
  ·exact Qb4 rx fx t f.2 u' hu
noncomputable def inV (x:V) (xs:List V):Bool:=xs.any fun y=>eqV y x
noncomputable def rIn (K:PySem.W.Frag) (neg:Bool):R2:=fun x y H Q=>∃ p xs,y=.ref p∧(SqL K H p xs∨SqT K H p xs)∧Qbv x=true∧xs.all Qbv=true∧Q (.bl (if neg then !inV x xs else inV x xs)) H
theorem Qf2:OpR X (compareOp .In) (rIn X.K false):=by
 intro pins s σ H x y v u Q I rx ry h
 obtain⟨p,xs,rfl,hq,fx,fs,q⟩:=h
 cases ry
 rcases hq with hq | hq
 ·obtain⟨its,r,pl,hz⟩:=I.list hq
  refine SeqAt.in_listAt (eqU x) pl.isList (fun w hw=>Qb4 rx fx r fs w (by simpa using hw)) ⟨.bl _,H,I,rfl,?_⟩
  rw [show its.toArray.any (eqU x)=its.any (eqU x) by simp,QdB r fs]
  exact q
 ·obtain⟨its,r,pl,hz⟩:=I.tuple hq
  refine SeqAt.in_tupleAt (eqU x) pl (fun w hw=>Qb4 rx fx r fs w (by simpa using hw)) ⟨.bl _,H,I,rfl,?_⟩
  rw [show its.toArray.any (eqU x)=its.any (eqU x) by simp,QdB r fs]
  exact q
theorem QcL:Qac X (.builtin "len") (fun xs H Q=>∃ p ys,xs=[.ref p]∧(SqL X.K H p ys∨SqT X.K H p ys)∧Q (.int ys.length) H):=by
 intro pins s σ H xs us Q I r h
 obtain⟨p,ys,rfl,hq,q⟩:=h
 obtain⟨u,rfl,rx⟩:=Qhx r
 cases rx
 have hn:=Qat
 rcases hq with hq | hq
 ·obtain⟨its,r',pl,hz⟩:=I.list hq
  have hlen:=r'.length
  exact Calls.call_len_list pl.isList (by simp only [List.size_toArray] <;> omega) ⟨.int ys.length,H,I.tok _,⟨s.toks+1,by rw [List.size_toArray,hlen]⟩,q⟩
 ·obtain⟨its,r',pl,hz⟩:=I.tuple hq
  have hlen:=r'.length
  exact len_tuple pl (by simp only [List.size_toArray] <;> omega) ⟨.int ys.length,H,I.tok _,⟨s.toks+1,by rw [List.size_toArray,hlen]⟩,q⟩
theorem QcM:Qac X (.type "list") (fun xs H Q=>∃ p ys,xs=[.ref p]∧(SqL X.K H p ys∨SqT X.K H p ys)∧∀ l,H l=none->Q (.ref l) (upd H l (.lst ys))):=by
 intro pins s σ H xs us Q I r h
 obtain⟨p,ys,rfl,hq,q⟩:=h
 obtain⟨u,rfl,rx⟩:=Qhx r
 cases rx
 have fin:∀(its:List Value),Vals ys its->ys.length≤sizeLine->∀(h':Heap) (c':Nat),(∀ b o',s.heap.get? b=some o'->h'.get? b=some o') ->
   h'.get? s.heap.objs.size=some { cls:=.type "list",dict:=none,data:=.seq its.toArray c',slots:=#[] }->EP X pins σ Q (.ref s.heap.objs.size) { s with heap:=h' }:=fun its r' hz h' c' kp e =>
  ⟨.ref s.heap.objs.size,_,I.laid (t':=s.toks) kp (Nat.le_refl _) (show ObjOk X.prog X.w _ h' _ (.lst ys) from ⟨hz,its,c',r',e⟩),rfl,q _ (I.hok.fresh (Nat.le_refl _))⟩
 rcases hq with hq | hq
 ·obtain⟨its,r',pl,hz⟩:=I.list hq
  have hlen:=r'.length
  obtain⟨o,ho,hc,n,hd⟩:=pl.isList
  exact call_list_seq p (.inl rfl) ho hc hd (fun h' c' kp e=>fin its r' hz h' c' kp e) (by simp only [List.size_toArray] <;> omega)
 ·obtain⟨its,r',pl,hz⟩:=I.tuple hq
  have hlen:=r'.length
  obtain⟨o,ho,hc,n,hd⟩:=pl
  exact call_list_seq p (.inr rfl) ho hc hd (fun h' c' kp e=>fin its r' hz h' c' kp e) (by simp only [List.size_toArray] <;> omega)
theorem Qb5:Qac X (.type "tuple") (fun xs H Q=>∃ p ys,xs=[.ref p]∧((SqL X.K H p ys∧∀ l,H l=none->Q (.ref l) (upd H l (.tup ys)))∨(SqT X.K H p ys∧Q (.ref p) H))):=by
 intro pins s σ H xs us Q I r h
 obtain⟨p,ys,rfl,h⟩:=h
 obtain⟨u,rfl,rx⟩:=Qhx r
 cases rx
 rcases h with⟨hq,q⟩ | ⟨hq,q⟩
 ·obtain⟨its,r',pl,hz⟩:=I.list hq
  have hlen:=r'.length
  refine call_tuple_list pl.isList (fun h' kp=>?_) (by simp only [List.size_toArray] <;> omega)
  have I1:Inv X pins σ H { s with heap:=h' }:=I.kept (t':=s.toks) kp
  have I2:Inv X pins σ (upd H h'.objs.size (.tup ys)) { s with heap:=h'.push { cls:=.type "tuple",data:=.seq its.toArray } } :=
   I1.laid (t':=s.toks) (fun b o e=>Heap.get?_push_of_some _ e) (Nat.le_refl _) (show ObjOk X.prog X.w _ _ _ (.tup ys) from ⟨hz,its,r',IsTup.new _ _⟩)
  exact⟨.ref h'.objs.size,_,I2,rfl,q _ (I1.hok.fresh (Nat.le_refl _))⟩
 ·obtain⟨its,r',pl,hz⟩:=I.tuple hq
  exact call_tuple_same pl ⟨.ref p,H,I,rfl,q⟩
noncomputable def tyV (K:PySem.W.Frag) (T:String) (x:V) (H:Hp):Prop:=match x with
 | .str _=>T = "str"
 | .int _=>T = "int"
 | .ref p=>(T = "list" ∧ ∃ xs,SqL K H p xs)∨(T = "tuple" ∧ ∃ o,K.lookup p=some o∧o.cls=.type "tuple" ∧ o.dict=none) ∨
   (T = "dict" ∧ ((∃ kvs,H p=some (.dK kvs))∨∃ kvs,H p=some (.dT kvs)))∨(T = "set" ∧ ∃ S n,H p=some (.set S n))
 | _=>False
theorem QiL {pins:List (Addr×Obj)} {σ:St} {H:Hp} {s:Shared} {T:String} {x:V} {v:Value} (I:Inv X pins σ H s) (r:RelV x v) (ty:tyV X.K T x H) :
  s.TypeIs v T∧∀ a,v=.ref a->∃ ob,s.heap.get? a=some ob∧ob.dict=none:=by
 cases x with
 | str z =>
  obtain⟨t,rfl⟩:=r
  cases (show T = "str" from ty)
  exact⟨typeIs_str s z t,fun _ e=>nomatch e⟩
 | int i =>
  obtain⟨t,rfl⟩:=r
  cases (show T = "int" from ty)
  exact⟨typeIs_int s i t,fun _ e=>nomatch e⟩
 | ref p =>
  cases r
  rcases ty with⟨rfl,xs,hq⟩ | ⟨rfl,o,hk,hc,hd⟩ | ⟨rfl,hk⟩ | ⟨rfl,S,n,hk⟩
  ·obtain⟨its,_,pl,_⟩:=I.list hq
   refine⟨pl.isList.typeIs,fun a e=>?_⟩
   cases e
   obtain⟨o,n,e,c,hd,_⟩:=pl
   exact⟨o,e,hd⟩
  ·refine⟨⟨o,I.kIn p o hk,hc⟩,fun a e=>?_⟩
   cases e
   exact⟨o,I.kIn _ o hk,hd⟩
  ·have z:∃ o,s.heap.get? p=some o∧o.ExactDict:=by
    rcases hk with⟨kvs,hk⟩ | ⟨kvs,hk⟩
    ·obtain⟨_,_,_,_,o,_,_,e,ex,_⟩:=I.hok p _ hk
     exact⟨o,e,ex⟩
    ·obtain⟨_,_,_,_,o,_,_,e,ex,_⟩:=I.hok p _ hk
     exact⟨o,e,ex⟩
   obtain⟨o,e,ex⟩:=z
   refine⟨⟨o,e,ex.1⟩,fun a e2=>?_⟩
   cases e2
   exact⟨o,e,ex.2.1⟩
  ·obtain⟨o,_,_,_,e,ex,_⟩:=I.hok p _ hk
   refine⟨⟨o,e,ex.1⟩,fun a e2=>?_⟩
   cases e2
   exact⟨o,e,ex.2.1⟩
 | _=>exact False.elim ty
noncomputable def tBM0 (K:PySem.W.Frag) (T:String) (r:V->List V->Hp->VK->Prop) (to:TE):TE:=fun σ H Q=>to σ H fun x H1=>tyV K T x H1∧r x [] H1 Q
noncomputable def tBM (K:PySem.W.Frag) (T:String) (r:V->List V->Hp->VK->Prop) (to:TE) (t:TA):TE:=fun σ H Q=>to σ H fun x H1=>tyV K T x H1∧t σ H1 fun xs H2=>r x xs H2 Q
variable {o e:Expr} {es:List Expr} {to:TE} {t:TA} {name:Str} {apos cpos:Pos} {T id:String} {r:V->List V->Hp->VK->Prop}
theorem Qlc (pa:PlainAttrs T) (slot:Slot T name id) (hty:typeOf (.builtin id)=pure (.type "method_descriptor")) (hm:MtR X id r) (ho:PE X o to)
  (hbase:attributeBase o name X.env (eval o X.env)=eval o X.env:=by rfl) (hline:(apos.endLine == cpos.line)=true:=by rfl):PE X (.Call (.Attribute o name apos) [] [] cpos) (tBM0 X.K T r to):=by
 intro pins s σ H Q I h
 refine wpAny_Call_method0_late hbase hline (thn (ho pins s σ H _ I h) fun v s1 ⟨x,H1,I1,r1,ty,q1⟩=>?_)
 obtain⟨h1,h2⟩:=QiL I1 r1 ty
 exact⟨T,id,pa,slot,hty,h1,h2,Calls.callWith_builtin rfl (PySem.evalArgs_none (hm pins s1 σ H1 x [] v [] Q I1 r1 .nil q1))⟩
theorem Qjt (pa:PlainAttrs T) (slot:Slot T name id) (hty:typeOf (.builtin id)=pure (.type "method_descriptor")) (hm:MtR X id r) (ho:PE X o to) (ha:PA X (e::es) t)
  (hbase:attributeBase o name X.env (eval o X.env)=eval o X.env:=by rfl)
  (hfew:((backTo cpos (starEach (e::es) X.env)).all (fun x=>!x.1) && (backToKw cpos (keywordEach [] X.env)).all (fun x=>x.1.isSome)
   && decide ((e::es).length+([]:List Keyword).length+(if ([]:List Keyword).isEmpty then 0 else 1)<30))=true:=by rfl)
  (hline:(apos.endLine == cpos.line)=true:=by rfl) (hs:starEach (e::es) X.env=(false,eval e X.env)::starEach es X.env:=by rfl) (hplain:(backTo cpos (starEach es X.env)).any (·.1)=false:=by rfl) :
  PE X (.Call (.Attribute o name apos) (e::es) [] cpos) (tBM X.K T r to t):=by
 intro pins s σ H Q I h
 refine wpAny_Call_method_late hbase hfew hline rfl (thn (ho pins s σ H _ I h) fun v s1 ⟨x,H1,I1,r1,ty,q1⟩=>?_)
 obtain⟨h1,h2⟩:=QiL I1 r1 ty
 refine⟨T,id,pa,slot,hty,h1,h2,?_⟩
 have hA:=ha cpos pins s1 σ H1 _ I1 q1
 rw [hs] at hA ⊢
 refine Calls.callWith_builtin (by show(false || (backTo cpos (starEach es X.env)).any (·.1))=false; rw [hplain] <;> rfl) (Calls.evalArgs_plain ?_)
 exact thn hA fun us s2 ⟨vs,H2,I2,r2,q2⟩=>hm pins s2 σ H2 x vs v us Q I2 r1 r2 q2
end
end L2
namespace L2
open PySem PySem.Spec PyProof.Rows
noncomputable def MtM (X:Cx) (id:String) (r:V->List V->Hp->VK->Prop):Prop :=
 ∀(pins:List (Addr×Obj)) (s:Shared) (σ:St) (H:Hp) (x:V) (xs:List V) (v:Value) (us:List Value) (Q:VK),Inv X pins σ H s->RelV x v->Vals xs us->r x xs H Q ->
  wpAny (model X.prog X.w) X.A (call (.builtin id) (v::us)) (EP X pins σ Q) X.xe s
theorem Vals.one:∀ {x:V} {us:List Value},Vals [x] us->∃ u,us=[u]∧RelV x u
 | _,_,.cons r .nil=>⟨_,rfl,r⟩
theorem Vals.two:∀ {x y:V} {us:List Value},Vals [x,y] us->∃ u v,us=[u,v]∧RelV x u∧RelV y v
 | _,_,_,.cons r (.cons q .nil)=>⟨_,_,rfl,r,q⟩
theorem Vals.zero:∀ {us:List Value},Vals [] us->us=[]
 | _,.nil=>rfl
theorem Vals.dropLast {xs:List V} {us:List Value} (h:Vals xs us):Vals xs.dropLast us.dropLast:=by
 induction h with
 | nil=>exact .nil
 | cons r t ih =>
  cases t with
  | nil=>exact .nil
  | cons q t'=>exact .cons r ih
theorem Qe8 {α:Type} (l:List α):l.eraseIdx (l.length - 1)=l.dropLast:=by
 induction l with
 | nil=>rfl
 | cons a r ih =>
  cases r with
  | nil=>rfl
  | cons b r =>
   have e:(a::b::r).length - 1=((b::r).length - 1)+1:=by
    have h1:(a::b::r).length=r.length+2:=rfl
    have h2:(b::r).length=r.length+1:=rfl
    omega
   rw [e,List.eraseIdx_cons_succ,ih]
   all_goals rfl
section
variable {X:Cx} {pins:List (Addr×Obj)} {σ:St} {H:Hp} {s:Shared} {l b:Addr} {xs ys zs:List V}
theorem Inv.lset {its its':List Value} {n:Nat} {f:Array Value->Array Value} {t':Nat} (I:Inv X pins σ H s) (hH:H l=some (.lst xs))
  (e:s.heap.get? l=some { cls:=.type "list",data:=.seq its.toArray n }) (hf:f its.toArray=its'.toArray) (hv:Vals ys its') (hz:ys.length≤sizeLine) :
  Inv X pins σ (upd H l (.lst ys)) { s with heap:=s.heap.update l (Obj.mapSeq f),toks:=t' }:=by
 have q:=PySem.IsL.update e f
 rw [hf] at q
 refine I.write (x:=l) (e:=l) (by rw [hH]; exact trivial) (.inl rfl) (fun b' u hb hu=>(Heap.get?_update_other s.heap (Obj.mapSeq f) (Ne.symm hb)).trans hu) ⟨_,q⟩ ?_
 exact⟨hz,its',_,hv,q⟩
theorem Inv.lnew {its:List Value} {t':Nat} (I:Inv X pins σ H s) (hv:Vals ys its) (hz:ys.length≤sizeLine) :
  Inv X pins σ (upd H s.heap.objs.size (.lst ys)) { s with heap:=s.heap.push { cls:=.type "list",data:=.seq its.toArray },toks:=t' } :=
 I.laid (fun _ _ q=>Heap.get?_push_of_some _ q) (Nat.le_refl _) ⟨hz,its,0,hv,Heap.get?_push_size _ rfl⟩
theorem Inv.fresh (I:Inv X pins σ H s):H s.heap.objs.size=none:=I.hok.fresh (Nat.le_refl _)
theorem Inv.lstM (I:Inv X pins σ H s) (hH:H l=some (.lst xs)):xs.length≤sizeLine∧∃(its:List Value) (n:Nat),Vals xs its∧xs.length=its.length∧s.heap.get? l=some { cls:=.type "list",data:=.seq its.toArray n }:=by
 obtain⟨z,its,n,r,e⟩:=I.hok l _ hH
 exact⟨z,its,n,r,r.length,e⟩
end
section
variable {X:Cx}
noncomputable def Qju:V->List V->Hp->VK->Prop:=fun x vs H Q=>∃ l xs y,x=.ref l∧vs=[y]∧H l=some (.lst xs)∧xs.length<sizeLine∧Q .non (upd H l (.lst (xs++[y])))
theorem Qf3:MtM X "list.append" Qju:=by
 intro pins s σ H x vs v us Q I rx rv h
 obtain⟨l,xs,y,rfl,rfl,hH,hz,q⟩:=h
 cases rx
 obtain⟨u,rfl,ru⟩:=rv.one
 obtain⟨z,its,n,r,hl,e⟩:=I.lstM hH
 refine call_meets F.slot_list_append ⟨_,e,rfl⟩ F.entry_list_append (F.args_list_append_2 _ _) (PySem.list_append l its.toArray n u (by rw [List.size_toArray]; omega)) ⟨e,?_⟩
 refine⟨.non,_,I.lset (its':=its++[u]) hH e (by simp) (r.append (.cons ru .nil)) ?_,rfl,q⟩
 rw [List.length_append,List.length_singleton]
 omega
noncomputable def rPop:V->List V->Hp->VK->Prop:=fun x vs H Q=>∃ l xs y,x=.ref l∧vs=[]∧H l=some (.lst xs)∧xs[xs.length - 1]?=some y∧Q y (upd H l (.lst xs.dropLast))
theorem Qld:MtM X "list.pop" rPop:=by
 intro pins s σ H x vs v us Q I rx rv h
 obtain⟨l,xs,y,rfl,rfl,hH,hy,q⟩:=h
 cases rx
 have hus:=rv.zero
 subst hus
 obtain⟨z,its,n,r,hl,e⟩:=I.lstM hH
 obtain⟨u,hu,ru⟩:=r.get hy
 have hy':its.toArray[its.toArray.size - 1]?=some u:=by
  show its.toArray[its.length - 1]?=some u
  rw [← Array.getElem?_toList,← hl]
  exact hu
 refine call_meets F.slot_list_pop ⟨_,e,rfl⟩ F.entry_list_pop (F.args_list_pop_1 _) (MeetsSeq.list_pop_last l its.toArray n u hy' (by rw [List.size_toArray]; omega)) ⟨e,?_⟩
 refine⟨y,_,I.lset (its':=its.dropLast) hH e ?_ r.dropLast ?_,ru,q⟩
 ·show its.toArray.eraseIdxIfInBounds (its.toArray.size - 1)=its.dropLast.toArray
  rw [List.size_toArray,List.eraseIdxIfInBounds_toArray,Qe8]
 ·rw [List.length_dropLast]
  omega
noncomputable def rCat:R2:=fun x y H Q=>∃ l b xs zs,x=.ref l∧y=.ref b∧H l=some (.lst xs)∧H b=some (.lst zs)∧xs.length+zs.length≤sizeLine∧∀ p,H p=none->Q (.ref p) (upd H p (.lst (xs++zs)))
theorem Qle:OpR X (binaryOp .Add) rCat:=by
 intro pins s σ H x y v u Q I rx ry h
 obtain⟨l,b,xs,zs,rfl,rfl,hH,hB,hz,q⟩:=h
 cases rx
 cases ry
 obtain⟨z,its,n,r,hl,e⟩:=I.lstM hH
 obtain⟨z2,its2,n2,r2,hl2,e2⟩:=I.lstM hB
 refine PySem.P.add_list e e2 ?_ (by rw [List.size_toArray,List.size_toArray]; omega)
 have ea:its.toArray++its2.toArray=(its++its2).toArray:=by simp
 rw [ea]
 exact⟨.ref _,_,I.lnew (t':=s.toks) (r.append r2) (by rw [List.length_append]; omega),rfl,q _ I.fresh⟩
end
section
variable {prog:Program} {w:World} {A:Around} {E:Value->Shared->Prop} {s:Shared}
end
section
variable {X:Cx}
end
end L2
namespace Att
open PySem PySem.W PySem.Calls PyProof.Rows
theorem QaW {P:Params} {h:Heap}:∀(ns:List Int) (vs:List Value),WellAll P h vs (ns.map WData.int)->IntsAre vs ns:=by
 intro ns
 induction ns with
 | nil =>
  intro vs w
  rw [List.map_nil] at w
  cases w
  exact .nil
 | cons n ns ih =>
  intro vs w
  rw [List.map_cons] at w
  cases w with
  | cons a b =>
   cases a
   exact .cons _ _ (ih _ b)
theorem Qf4 {l:OpenLaw} {n:Nat} (hn:l.most=some n) {P:Params} {h:Heap} {args:List WData} {vals:List Value}
  (hpre:l.row.toRowW.claim.pre args=true) (hwl:WellAll P h vals args) :
  ∃ a vs ns,vals=[Value.ref a]∧args=[WData.list (ns.map WData.int)]∧h.get? a=some { cls:=.type "list",data:=.seq vs.toArray }∧IntsAre vs ns∧ns.length≤n:=by
 have hsh:WShape.hasAll [] args [.list .int]=true:=(pre_splitW hpre).1
 have hc:l.pre.holds [] { args:=args }=true:=(pre_splitW hpre).2
 obtain⟨d,r,rfl,h1,h2⟩:=hasAllW_cons hsh
 obtain rfl:=hasAllW_nil h2
 obtain⟨xs,rfl,h3⟩:=hasW_list h1
 obtain⟨ns,rfl⟩:=items_int h3
 have hlen:ns.length≤n:=by
  unfold OpenLaw.pre at hc
  have h4:(WTm.not (.lt (.lit (.int (n:Int))) (.len (.arg 0)))).holds [] { args:=[.list (ns.map .int)] }=true:=by
   have h4:=(holds_andW hc).1
   rw [hn] at h4
   exact h4
  have h5:=condW_of h4 (w_not (w_lt w_lit (w_len_list (w_arg rfl))))
  rw [List.length_map] at h5
  refine Nat.le_of_not_lt fun q=>?_
  have q':(n:Int)<((ns.length:Nat):Int):=by omega
  first
   | (rw [decide_eq_true q'] at h5; exact absurd h5 (by decide))
   | (simp at h5; omega)
 cases hwl with
 | cons w1 w2 =>
  cases w2
  cases w1 with
  | list ho hall=>exact⟨_,_,ns,rfl,rfl,ho,QaW ns _ hall,hlen⟩
theorem Qf5 (l:OpenLaw) (args:List WData):l.row.toRowW.claim.post args (.bool true) args=true :=
 postW_of (r:=l.row.toRowW) (X:=(true == true))
  (show WShape.has [] (.bool true) .bool=true by first | rfl | decide | simp [WShape.has,WShape.arms,WShape.armsAll])
  (show(WTm.eq .res (.lit (.bool true))).value [] { args:=args,res:=some (.bool true),after:=args }=some (.bool (true == true)) from w_eq_bool (w_res rfl) w_lit) rfl
theorem attach_call {l:OpenLaw} {n:Nat} {q:Program} {loose:List Str} {XP:(Str->Option Value)->Heap->Prop} {YP:World->Heap->Prop} {d:DefRec}
  (hn:l.most=some n) (hdf:d.params.defaults=[])
  (call:∀(w:World) (s₀ s₁:Shared) (mg mb:Str->Option Value) (fa:Addr) (o:Obj) (pm cd doc:Value) (a:Addr) (vs:List Value) (ns:List Int),
   Ground q loose [] XP w s₀ mg mb s₁.heap->YP w s₁.heap ->
   s₁.heap.get? fa=some o->o.data=.func (docDef d.name d.params d.body d.scope pm cd doc)->s₁.heap.CodeRec cd d.name->mg d.name=some (.ref fa) ->
   s₁.heap.get? a=some { cls:=.type "list",data:=.seq vs.toArray }->IntsAre vs ns->ns.length≤n->s₁.gens = #[] ->
   codeAny (model l.prog w) callerA (.call (.ref fa) ⟨[.ref a],[]⟩) (fun r s'=>r=.ok (.ret (.bool true))∧OldK s₁.heap s'.heap∧s'.os=s₁.os∧AllBare s'.gens) s₁) :
  WalkO q loose XP YP l.row.toRowW d [] (fun f vs=>PySem.call f vs):=by
 intro w s₀ s₁ mg mb G Y fa o pm cd doc dV kV ho hd hcd hD hmg hg args vals as hpre hlay hrd hwl hlo
 obtain rfl:dV=.none:=Dflts.none hD hdf
 obtain rfl:kV=.none:=Dflts.noKw hD
 obtain⟨a,vs,ns,rfl,rfl,hobj,hints,hlen⟩:=Qf4 hn hpre hwl
 refine enter_call (codeAny_mono (call w s₀ s₁ mg mb fa o pm cd doc a vs ns G Y ho (fd_plain hd) hcd hmg hobj hints hlen hg) fun r s' hq=>?_)
 obtain⟨rfl,h2,h3,h4⟩:=hq
 exact⟨.inl ⟨.bool true,.bool true,[],rfl,fun _=>rfl,.bool true,Qf5 l _,fun _=>⟨List.Pairwise.nil,fun _ hm=>(nomatch hm)⟩⟩,h2,h3,h4⟩
section
variable {prog:Program} {w:World} {A:Around} {E:Value->Shared->Prop} {s:Shared} {K:Frag}
end
end Att
namespace L2
open PySem PySem.Spec PyProof.Rows
theorem QcN:∀ {vs:List Value} {ns:List Int},IntsAre vs ns->Vals (ns.map V.int) vs
 | _,_,.nil=>.nil
 | _,_,.cons n t h=>.cons ⟨t,rfl⟩ (QcN h)
noncomputable def Only (H:Hp):Prop:=∀ b,H b=none∨∃ o xs,H b=some (.frz o (.lst xs))
theorem QhD {P:Program} {w:World} {K:PySem.W.Frag} {mg mb:Str->Option Value} {CX:CXT} {k:Nat} {fa a:Addr} {fd:FuncData} {x:Str} {sp:Sp} {s₁:Shared} {vs:List Value} {ns:List Int}
  (KX:K.In s₁.heap) (hns:s₁.heap.Ns mainGlobals mg) (hb:s₁.heap.Ns builtinsNs mb) (hbb:∀ x:Str,x ≠ "__name__" -> mb x=bootBuiltins x) (hlim:s₁.heap.NoLimit) (hg:s₁.gens = #[])
  (ha:s₁.heap.get? a=some { cls:=.type "list",data:=.seq vs.toArray }) (hi:IntsAre vs ns) (hl:ns.length≤sizeLine) (hr:Room k callerA)
  (F:∀ base:Heap,K.In base->base.Ns mainGlobals mg->FnOk P w K mg base CX k fa fd [x] sp) (hbind:∀(s:Shared) (u:Value),BindsTo s fd ⟨[u],[]⟩ [(x,u)])
  (hsp:∀ H:Hp,Only H->SqL K H a (ns.map V.int)->sp [.ref a] H (fun v _=>v=.bl true) fun _ _ _=>False)
  (hCX:∀ H e s',CX [] H s₁ (fun _ _ _=>False) e s'->False) :
  codeAny (model P w) callerA (.call (.ref fa) ⟨[.ref a],[]⟩) (fun r s'=>r=.ok (.ret (.bool true))∧OldK s₁.heap s'.heap∧s'.os=s₁.os∧AllBare s'.gens) s₁:=by
 have rv:=QcN hi
 have lenV:=hi.length
 -- from an abstract heap in which nothing but the script may be tracked
 have core:∀ H:Hp,Only H->SqL K H a (ns.map V.int)->HOk P w H s₁.heap->(∀ b,H b≠none->b=a)->(H a≠none->K.lookup a=none) ->
   codeAny (model P w) callerA (.call (.ref fa) ⟨[.ref a],[]⟩) (fun r s'=>r=.ok (.ret (.bool true))∧OldK s₁.heap s'.heap∧s'.os=s₁.os∧AllBare s'.gens) s₁:=by
  intro H hO hS hok hA hK
  have base_of:∀ {b:Addr} {o:Obj},s₁.heap.get? b=some o->H b=none->(hidT s₁.heap H).get? b=some o:=fun e n=>Qho e n
  have noA:∀ {b:Addr} {o:Obj} {es:Array DictEntry} {ep:Nat},s₁.heap.get? b=some o->o.data=.dict es ep->H b=none:=fun {b o es ep} e d=>by
   cases q:H b with
   | none=>rfl
   | some u =>
    have e':b=a:=hA b (by rw [q]; simp)
    subst e'
    rw [ha] at e; cases e
    have d':Data.seq vs.toArray _=Data.dict es ep:=d
    cases d'
  have nsK:∀ {b:Addr} {m:Str->Option Value},s₁.heap.Ns b m->(hidT s₁.heap H).Ns b m:=fun {b m} ⟨o,es,ep,e,d,r⟩=>⟨o,es,ep,base_of e (noA e d),d,r⟩
  have hKb:K.In (hidT s₁.heap H):=fun b o e=>base_of (KX b o e) (by
   cases q:H b with
   | none=>rfl
   | some u =>
    have e':b=a:=hA b (by rw [q]; simp)
    subst e'
    rw [hK (by rw [q]; simp)] at e; cases e)
  have hM:Mod K mg (hidT s₁.heap H):=⟨hKb,nsK hns,⟨mb,nsK hb,hbb⟩,let ⟨mc,h1,h2⟩:=hlim; ⟨mc,nsK h1,h2⟩⟩
  have e0:Env0 P w K mg (hidT s₁.heap H) callerA [] s₁ H:=⟨rfl,hM,fun b o e=>Qjb e,Nat.le_of_eq (QfN _ _),trivial,fun b hb=>absurd (show b∈([]:List Addr) from hb) (by simp),hok,.of_eq hg⟩
  refine codeAny_mono ((F _ hKb (nsK hns)).run callerA [] s₁ H ⟨[.ref a],[]⟩ [.ref a] [.ref a] _ _ hr e0 (hbind s₁ (.ref a)) (.cons rfl .nil) (hsp H hO hS)) fun r s' h=>?_
  cases r with
  | error e=>exact(hCX H e s' h).elim
  | ok fl =>
   cases fl with
   | next=>exact False.elim h
   | brk=>exact False.elim h
   | cont=>exact False.elim h
   | ret u =>
    obtain⟨v,H',os,bare,un,hok',r',q⟩:=h
    have q':v=.bl true:=q
    subst q'
    obtain rfl:u=Value.bool true:=r'
    refine⟨rfl,OldK.of_keep fun b o e=>?_,os,bare⟩
    cases q:H b with
    | none=>exact un.keep b o e q (by intro z; exact absurd (show b∈([]:List Addr) from z) (by simp)) (by simp)
    | some u =>
     rcases hO b with z | ⟨ob,xs,z⟩
     ·rw [q] at z; cases z
     ·have z2:=un.frzs b ob _ z
      obtain⟨e1,_⟩:=hok b _ z
      obtain⟨e2,_⟩:=hok' b _ z2
      rw [e] at e1; cases e1
      exact e2
 cases hk:K.lookup a with
 | some o =>
  -- the script is one of the module's own objects
  have e:=KX a o hk
  rw [ha] at e
  cases e
  refine core (fun _=>none) (fun _=>.inl rfl) (.inr ⟨_,vs.toArray,_,hk,rfl,rfl,rfl,by rw [List.size_toArray,lenV]; exact hl,by simpa using rv⟩) (fun b u z=>by have z':(none:Option HO)=some u:=z; cases z') (fun b z=>absurd rfl z) fun z=>absurd rfl z
 | none =>
  refine core (fun b=>if b=a then some (.frz { cls:=.type "list",data:=.seq vs.toArray } (.lst (ns.map V.int))) else none) (fun b=>?_) (.inl (.inr ⟨{ cls:=.type "list",data:=.seq vs.toArray },if_pos rfl⟩)) (fun b u z=>?_) (fun b z=>?_) fun _=>hk
  ·by_cases hb:b=a
   ·exact .inr ⟨_,_,if_pos hb⟩
   ·exact .inl (if_neg hb)
  ·by_cases hb:b=a
   ·have z':=(if_pos hb).symm.trans z
    cases z'
    subst hb
    exact⟨ha,by rw [List.length_map]; exact hl,vs,_,rv,ha⟩
   ·have z':=(if_neg hb).symm.trans z
    cases z'
  ·by_cases hb:b=a
   ·exact hb
   ·exact absurd (if_neg hb) z
end L2
namespace L2
open PySem PySem.Spec PyProof.Rows
theorem walk_of {l:PySem.W.OpenLaw} {n k:Nat} {q:Program} {loose:List Str} {XP:(Str->Option Value)->Heap->Prop} {YP:World->Heap->Prop} {d:DefRec} {K:Params->PySem.W.Frag} {CX:World->CXT} {sp:World->Sp} {x:Str}
  (hn:l.most=some n) (hn2:n≤sizeLine) (hdf:d.params.defaults=[]) (hr:Room k callerA)
  (hY:∀(w:World) (h:Heap),YP w h->(K w.params).In h)
  (F:∀(w:World) (mg:Str->Option Value) (fa:Addr) (h:Heap),(K w.params).In h->h.Ns mainGlobals mg->mg d.name=some (.ref fa) ->
   ∃ fd:FuncData,(∀(s:Shared) (u:Value),BindsTo s fd ⟨[u],[]⟩ [(x,u)]) ∧
    ∀ base:Heap,(K w.params).In base->base.Ns mainGlobals mg->FnOk l.prog w (K w.params) mg base (CX w) k fa fd [x] (sp w))
  (hsp:∀(w:World) (H:Hp) (a:Addr) (ns:List Int),ns.length≤n->Only H->SqL (K w.params) H a (ns.map V.int)->sp w [.ref a] H (fun v _=>v=.bl true) fun _ _ _=>False)
  (hCX:∀(w:World) (H:Hp) (s:Shared) (e:Value) (s':Shared),CX w [] H s (fun _ _ _=>False) e s'->False) :
  PySem.W.WalkO q loose XP YP l.row.toRowW d [] (fun f vs=>PySem.call f vs):=by
 refine Att.attach_call hn hdf fun w s₀ s₁ mg mb fa o pm cd doc a vs ns G Y ho hd hcd hmg hobj hints hlen hg=>?_
 have KX:=hY w _ Y
 obtain⟨fd,hb,hF⟩:=F w mg fa _ KX G.T.g hmg
 exact QhD KX G.T.g G.T.b G.T.builtins G.T.nolimit hg hobj hints (Nat.le_trans hlen hn2) hr hF hb (fun H hO hS=>hsp w H a ns hlen hO hS) fun H e s'=>hCX w H s₁ e s'
end L2
namespace L2
open PySem PySem.Spec PyProof.Rows
noncomputable def YB (s:Stmt) (j:Nat):Stmt:=match s with
 | .ClassDef _ _ _ body _ _ _ _ _ _ _=>body.getD j (.Pass ⟨0,0,0,0⟩)
 | _=>.Pass ⟨0,0,0,0⟩
noncomputable def Qv (s:Stmt):Arguments:=match s with
 | .FunctionDef _ a _ _ _ _ _ _ _ _=>a
 | _=>{ posonlyargs:=[],args:=[],vararg:=none,kwonlyargs:=[],kw_defaults:=[],kwarg:=none,defaults:=[] }
noncomputable def Qt (s:Stmt):List Stmt:=match s with
 | .FunctionDef _ _ b _ _ _ _ _ _ _=>b
 | _=>[]
noncomputable def Qd (s:Stmt):Scope:=match s with
 | .FunctionDef _ _ _ _ _ _ sc _ _ _=>sc
 | _=>{ kind:=.function,names:=[],isGenerator:=false,isCoroutine:=false }
noncomputable abbrev CX0:CXT:=fun _ _ _ _ _ _=>False
structure Fun (K:PySem.W.Frag) (x qual:Str) (st:Stmt) (f:Addr) (fd:FuncData):Prop where
 ex:∃(oc:Value) (od:Option Addr) (kV doc pm:Value) (an:Option Addr) (cdv ct:Value) (osl:Array (Option Value)),
  fd=PySem.W.fnOf x qual (Qv st) (Qt st) (Qd st) .none kV doc pm an cdv ct∧K.lookup f=some ⟨oc,od,.func fd,osl⟩∧PySem.W.codeIn K cdv qual=true
 kp:PySem.W.keepIn K (.ref f)=true
section
variable {P:Program} {w:World} {K:PySem.W.Frag} {mg:Str->Option Value} {base:Heap}
theorem Fun.binds {x qual:Str} {st:Stmt} {f:Addr} {fd:FuncData} {ps:List Str} (F:Fun K x qual st f fd)
  (h:∀(kV doc pm:Value) (an:Option Addr) (cdv ct:Value) (us:List Value),us.length=ps.length->bindArgs (PySem.W.fnOf x qual (Qv st) (Qt st) (Qd st) .none kV doc pm an cdv ct) ⟨us,[]⟩=pure (ps.zip us)):Binds K fd ps []:=by
 obtain⟨oc,od,kV,doc,pm,an,cdv,ct,osl,rfl,lk,hcd⟩:=F.ex
 exact .all (h kV doc pm an cdv ct)
theorem QV {x qual:Str} {st:Stmt} {f:Addr} {oc:Value} {od an:Option Addr} {osl:Array (Option Value)} {kV doc pm cdv ct:Value} (l:K.lookup f=some ⟨oc,od,.func (PySem.W.fnOf x qual (Qv st) (Qt st) (Qd st) .none kV doc pm an cdv ct),osl⟩)
  (c:PySem.W.codeIn K cdv qual=true) (k:PySem.W.keepIn K (.ref f)=true):Fun K x qual st f (PySem.W.fnOf x qual (Qv st) (Qt st) (Qd st) .none kV doc pm an cdv ct):=⟨⟨oc,od,kV,doc,pm,an,cdv,ct,osl,rfl,l,c⟩,k⟩
end
section
variable {X:Cx}
end
noncomputable def Same (H H':Hp):Prop:=∀ b o,H b=some o->H' b=some o
end L2
set_option maxHeartbeats 4000000
section
namespace L3
open PySem
noncomputable abbrev Xc:=Nat×Option Nat
inductive D where
 | non | bl (b:Bool) | int (i:Int) | str (s:Str) | ref (n:Nat) | tup (ds:List D) | fl (ds:List D)
inductive GO where
 | lst (ds:List D) | ins (c:Nat) (fs:List (Str×D)) | dct (kvs:List (Sum Int Str×D)) | exc (x:Xc)
noncomputable abbrev G:=List GO
noncomputable abbrev S3:=List (Option D)
inductive Res (α:Type) where
 | ok (a:α) (g:G) | raise (x:Xc) (g:G) | stuck
noncomputable def Res.bind {α β:Type}:Res α->(α->G->Res β)->Res β
 | .ok a g,k=>k a g
 | .raise e g,_=>.raise e g
 | .stuck,_=>.stuck
inductive Out where
 | nx (σ:S3) (g:G) | rt (d:D) (g:G) | bk (σ:S3) (g:G) | ct (σ:S3) (g:G) | raise (x:Xc) (σ:S3) (g:G) | stuck
noncomputable abbrev ME:=S3->G->Res D
noncomputable abbrev MT:=S3->G->Res Bool
noncomputable abbrev MA:=S3->G->Res (List D)
noncomputable abbrev MS:=S3->G->Out
noncomputable abbrev MF:=List D->G->Res D
theorem Res.bind_ok {α β:Type} (a:α) (g:G) (k:α->G->Res β):(Res.ok a g).bind k=k a g:=rfl
noncomputable def SZ:Nat:=1000000
noncomputable def mVar (i:Nat):ME:=fun σ g=>match σ[i]? with
 | some (some d)=>.ok d g
 | _=>.stuck
noncomputable def mLit (d:D):ME:=fun _ g=>.ok d g
noncomputable def mOp1 (f:D->G->Res D) (a:ME):ME:=fun σ g=>(a σ g).bind f
noncomputable def mOp2 (f:D->D->G->Res D) (a b:ME):ME:=fun σ g=>(a σ g).bind fun x g1=>(b σ g1).bind fun y g2=>f x y g2
noncomputable def mNil:MA:=fun _ g=>.ok [] g
noncomputable def Qa (a:ME) (r:MA):MA:=fun σ g=>(a σ g).bind fun x g1=>(r σ g1).bind fun xs g2=>.ok (x::xs) g2
noncomputable def mOpA (f:List D->G->Res D) (a:MA):ME:=fun σ g=>(a σ g).bind f
noncomputable def Qf (a:ME):MT:=fun σ g=>(a σ g).bind fun d g1=>match d with
 | .bl b=>.ok b g1
 | _=>.stuck
noncomputable def YZ (a:MT):MT:=fun σ g=>(a σ g).bind fun b g1=>.ok (!b) g1
noncomputable def Qbw (a b:MT):MT:=fun σ g=>(a σ g).bind fun c g1=>if c=true then b σ g1 else .ok false g1
noncomputable def mOrT (a b:MT):MT:=fun σ g=>(a σ g).bind fun c g1=>if c=true then .ok true g1 else b σ g1
noncomputable def mNot (a:ME):ME:=fun σ g=>(a σ g).bind fun d g1=>match d with
 | .bl b=>.ok (.bl (!b)) g1
 | _=>.stuck
noncomputable def mAnd (a b:ME):ME:=fun σ g=>(a σ g).bind fun d g1=>match d with
 | .bl c=>if c=true then b σ g1 else .ok (.bl false) g1
 | _=>.stuck
noncomputable def mIfE (c:MT) (a b:ME):ME:=fun σ g=>(c σ g).bind fun t g1=>if t=true then a σ g1 else b σ g1
noncomputable def QbF (f f':D->D->G->Res D) (a b c:ME):ME:=fun σ g=>(a σ g).bind fun x g1=>(b σ g1).bind fun y g2=>(f x y g2).bind fun z g3=>match z with
 | .bl true=>(c σ g3).bind fun w g4=>f' y w g4
 | .bl false=>.ok (.bl false) g3
 | _=>.stuck
noncomputable def QB:MS:=fun σ g=>.nx σ g
noncomputable def mSeq (a b:MS):MS:=fun σ g=>match a σ g with
 | .nx σ' g'=>b σ' g'
 | o=>o
noncomputable def ZA (a:ME):MS:=fun σ g=>match a σ g with
 | .ok _ g'=>.nx σ g'
 | .raise e g'=>.raise e σ g'
 | .stuck=>.stuck
noncomputable def mRet (a:ME):MS:=fun σ g=>match a σ g with
 | .ok d g'=>.rt d g'
 | .raise e g'=>.raise e σ g'
 | .stuck=>.stuck
noncomputable def mIf (c:MT) (a b:MS):MS:=fun σ g=>match c σ g with
 | .ok t g'=>if t=true then a σ g' else b σ g'
 | .raise e g'=>.raise e σ g'
 | .stuck=>.stuck
noncomputable def QaX:MS:=fun _ _=>.stuck
noncomputable def QcO (c:Nat) (a:MA):MS:=fun σ g=>match a σ g with
 | .ok ds g'=>if ds.length≤SZ then .raise (c,none) σ g' else .stuck
 | .raise e g'=>.raise e σ g'
 | .stuck=>.stuck
structure MH where
 cs:List Nat
 no:List Nat
 nm:Option Nat
 suite:MS
noncomputable def Qlf (i:Nat):Out->Out
 | .nx σ g=>.nx (σ.set i none) g
 | .rt d g=>.rt d g
 | _=>.stuck
noncomputable def runH:List MH->Xc->S3->G->Out
 | [],x,σ,g=>.raise x σ g
 | h::r,x,σ,g=>if x.1∈h.cs then (match h.nm with
  | none=>(match h.suite σ g with
   | .nx σ' g'=>.nx σ' g'
   | .rt d g'=>.rt d g'
   | _=>.stuck)
  | some i=>Qlf i (h.suite (σ.set i (some (.ref g.length))) (g++[.exc x]))) else if x.1∈h.no then runH r x σ g else .stuck
noncomputable def mTry (b:MS) (hs:List MH):MS:=fun σ g=>match b σ g with
 | .raise x σ' g'=>runH hs x σ' g'
 | o=>o
noncomputable abbrev MG:=D->S3->Option S3
noncomputable def gSet (i:Nat):MG:=fun d σ=>some (σ.set i (some d))
noncomputable def Qe9:List MG->List D->S3->Option S3
 | [],[],σ=>some σ
 | t::ts,d::ds,σ=>(t d σ).bind fun σ'=>Qe9 ts ds σ'
 | _,_,_=>none
noncomputable def Z6 (ts:List MG):MG:=fun d σ=>match d with
 | .tup ds=>Qe9 ts ds σ
 | _=>none
noncomputable def mAsg (t:MG) (a:ME):MS:=fun σ g=>match a σ g with
 | .ok d g'=>(match t d σ with
  | some σ'=>.nx σ' g'
  | none=>.stuck)
 | .raise e g'=>.raise e σ g'
 | .stuck=>.stuck
structure Src where
 at':G->Nat->Option (Option D)
 top:Nat
noncomputable abbrev MI:=S3->G->Res Src
noncomputable def forL (src:Src) (t:MG) (body:MS):Nat->Nat->S3->G->Out
 | 0,_,_,_=>.stuck
 | f+1,i,σ,g=>match src.at' g i with
  | some (some d)=>(match t d σ with
   | some σ1=>(match body σ1 g with
    | .nx σ2 g2=>forL src t body f (i+1) σ2 g2
    | .ct σ2 g2=>forL src t body f (i+1) σ2 g2
    | .bk σ2 g2=>.nx σ2 g2
    | o=>o)
   | none=>.stuck)
  | some none=>.nx σ g
  | none=>.stuck
noncomputable def mFor (it:MI) (t:MG) (body:MS):MS:=fun σ g=>match it σ g with
 | .ok src g'=>forL src t body (src.top+1) 0 σ g'
 | .raise e g'=>.raise e σ g'
 | .stuck=>.stuck
noncomputable def Zd (c:MT) (body:MS):Nat->S3->G->Out
 | 0,_,_=>.stuck
 | f+1,σ,g=>match c σ g with
  | .ok true g1=>(match body σ g1 with
   | .nx σ2 g2=>Zd c body f σ2 g2
   | .ct σ2 g2=>Zd c body f σ2 g2
   | .bk σ2 g2=>.nx σ2 g2
   | o=>o)
  | .ok false g1=>.nx σ g1
  | .raise e g1=>.raise e σ g1
  | .stuck=>.stuck
open Classical in
noncomputable def QbG (c:MT) (body:MS):MS:=fun σ g=>if h:∃ f,Zd c body f σ g≠.stuck then Zd c body h.choose σ g else .stuck
noncomputable def YR (src:Src) (t:MG) (c:MT) (e:ME):Nat->Nat->S3->G->List D->Res (List D)
 | 0,_,_,_,_=>.stuck
 | f+1,i,σ,g,acc=>match src.at' g i with
  | some (some d)=>(match t d σ with
   | some σ1=>(match c σ1 g with
    | .ok b g1=>if b=true then (match e σ1 g1 with
     | .ok y g2=>YR src t c e f (i+1) σ1 g2 (acc++[y])
     | _=>.stuck) else YR src t c e f (i+1) σ1 g1 acc
    | _=>.stuck)
   | none=>.stuck)
  | some none=>.ok acc g
  | none=>.stuck
noncomputable def capt (n:Nat) (cap:List Nat) (σ:S3):S3:=List.replicate n none++cap.map fun i=>(σ[i]?).getD none
noncomputable def newL (ds:List D) (g:G):Res D:=if ds.length≤SZ then .ok (.ref g.length) (g++[.lst ds]) else .stuck
noncomputable def pTup (xs:List D) (g:G):Res D:=if xs.length≤SZ then .ok (.tup xs) g else .stuck
noncomputable def Y0 (it:MI) (n:Nat) (cap:List Nat) (t:MG) (c:MT) (e:ME):ME:=fun σ g=>match it σ g with
 | .ok src g1=>if src.top≤SZ then (match YR src t c e (src.top+1) 0 (capt n cap σ) g1 [] with
  | .ok ds g2=>.ok (.ref g2.length) (g2++[.lst ds])
  | _=>.stuck) else .stuck
 | _=>.stuck
noncomputable def Y2:MT:=fun _ g=>.ok true g
noncomputable def mDef (k n:Nat) (body:MS):MF:=fun ds g=>if ds.length=k then (match body (ds.map some++List.replicate n none) g with
 | .nx _ g'=>.ok .non g'
 | .rt d g'=>.ok d g'
 | .raise e _ g'=>.raise e g'
 | _=>.stuck) else .stuck
noncomputable def QA (f:MF) (a:MA):ME:=fun σ g=>(a σ g).bind f
noncomputable def Z8 (cc:Nat) (m:Str) (f:MF) (o:ME) (a:MA):ME:=fun σ g=>(o σ g).bind fun x g1=>match x with
 | .ref n=>(match g1[n]? with
  | some (.ins c fs)=>if c=cc∧fs.lookup m=none then (a σ g1).bind fun xs g2=>f (.ref n::xs) g2 else .stuck
  | _=>.stuck)
 | _=>.stuck
noncomputable def QcP (c:Nat) (f:MF) (a:MA):ME:=fun σ g=>(a σ g).bind fun xs g1=>(f (.ref g1.length::xs) (g1++[.ins c []])).bind fun d g2=>match d with
 | .non=>.ok (.ref g1.length) g2
 | _=>.stuck
noncomputable def QF (cs:List Nat) (f:Str) (o:ME):ME:=mOp1 (fun x g=>match x with
 | .ref n=>(match g[n]? with
  | some (.ins c fs)=>if c∈cs then (match fs.lookup f with
   | some d=>.ok d g
   | none=>.stuck) else .stuck
  | _=>.stuck)
 | _=>.stuck) o
noncomputable def putG (f:Str) (v:D):List (Str×D)->List (Str×D)
 | []=>[(f,v)]
 | (g,x)::r=>if g=f then (g,v)::r else (g,x)::putG f v r
noncomputable def QN (cs:List Nat) (f:Str) (o v:ME):MS:=fun σ g=>match v σ g with
 | .ok y g1=>(match o σ g1 with
  | .ok (.ref n) g2=>(match g2[n]? with
   | some (.ins c fs)=>if c∈cs∧fs.length<100 then .nx σ (g2.set n (.ins c (putG f y fs))) else .stuck
   | _=>.stuck)
  | .raise e g'=>.raise e σ g'
  | _=>.stuck)
 | .raise e g'=>.raise e σ g'
 | .stuck=>.stuck
noncomputable def ixD (n:Nat) (i:Int):Option Nat:=if 0≤i then (if i<n then some i.toNat else none) else if -(n:Int)≤i then some (i+n).toNat else none
noncomputable def QcQ (o i v:ME):MS:=fun σ g=>match v σ g with
 | .ok y g1=>(match o σ g1 with
  | .ok (.ref n) g2=>(match i σ g2 with
   | .ok (.int k) g3=>(match g3[n]? with
    | some (.lst ds)=>(match ixD ds.length k with
     | some j=>.nx σ (g3.set n (.lst (ds.set j y)))
     | none=>.stuck)
    | _=>.stuck)
   | .raise e g'=>.raise e σ g'
   | _=>.stuck)
  | .raise e g'=>.raise e σ g'
  | _=>.stuck)
 | .raise e g'=>.raise e σ g'
 | .stuck=>.stuck
noncomputable def QaY (d:D) (g:G):Res Src:=match d with
 | .tup ds=>.ok ⟨fun _ i=>some ds[i]?,ds.length⟩ g
 | .fl ds=>.ok ⟨fun _ i=>some ds[i]?,ds.length⟩ g
 | .ref n=>(match g[n]? with
  | some (.lst ds)=>.ok ⟨fun g i=>(match g[n]? with | some (.lst es)=>some es[i]? | _=>none),ds.length⟩ g
  | _=>.stuck)
 | _=>.stuck
noncomputable def ZN (a:ME):MI:=fun σ g=>(a σ g).bind QaY
noncomputable def ZZ (lo:Int) (n:Nat):Src:=⟨fun _ i=>some (if i<n then some (.int (lo+i)) else none),n⟩
noncomputable def inR (j:Int):Prop:=-(2 ^ 62)≤j∧j<2 ^ 62
noncomputable instance (j:Int):Decidable (inR j):=inferInstanceAs (Decidable (_∧_))
noncomputable def Zm (a:ME):MI:=fun σ g=>(a σ g).bind fun d g1=>match d with
 | .int j=>if inR j then .ok (ZZ 0 j.toNat) g1 else .stuck
 | _=>.stuck
noncomputable def QG (g:G):D->Option (Bool×List D)
 | .tup ds=>some (false,ds)
 | .fl ds=>some (true,ds)
 | .ref n=>(match g[n]? with
  | some (.lst ds)=>some (true,ds)
  | _=>none)
 | _=>none
noncomputable def QbH (d1 d2:D) (g:G):Res Src:=match QG g d1,QG g d2 with
 | some (_,xs),some (_,ys)=>.ok ⟨fun g i=>(match QG g d1,QG g d2 with
  | some (_,xs),some (_,ys)=>(match xs[i]?,ys[i]? with
   | some x,some y=>some (some (.tup [x,y]))
   | _,_=>some none)
  | _,_=>none),min xs.length ys.length⟩ g
 | _,_=>.stuck
noncomputable def QaZ (a b:ME):MI:=fun σ g=>(a σ g).bind fun x g1=>(b σ g1).bind fun y g2=>QbH x y g2
noncomputable def pAdd (x y:D) (g:G):Res D:=match x,y with
 | .int i,.int j=>.ok (.int (i+j)) g
 | .tup xs,.tup ys=>if xs.length+ys.length≤SZ then .ok (.tup (xs++ys)) g else .stuck
 | .ref n,.ref m=>(match g[n]?,g[m]? with
  | some (.lst xs),some (.lst ys)=>if xs.length+ys.length≤SZ then .ok (.ref g.length) (g++[.lst (xs++ys)]) else .stuck
  | _,_=>.stuck)
 | _,_=>.stuck
noncomputable def pSub (x y:D) (g:G):Res D:=match x,y with
 | .int i,.int j=>.ok (.int (i - j)) g
 | _,_=>.stuck
noncomputable def cM (i:Int):Prop:=-(2 ^ 64)<i∧i<2 ^ 64
noncomputable instance (j:Int):Decidable (cM j):=inferInstanceAs (Decidable (_∧_))
noncomputable def pMul (x y:D) (g:G):Res D:=match x,y with
 | .int i,.int j=>if cM i∨cM j then .ok (.int (i*j)) g else .stuck
 | _,_=>.stuck
noncomputable def Z1 (x y:D) (g:G):Res D:=match x,y with
 | .int i,.int j=>if 0<j∧j<1073741824 then .ok (.int (i / j)) g else .stuck
 | _,_=>.stuck
noncomputable def pMod (x y:D) (g:G):Res D:=match x,y with
 | .int i,.int j=>if 0<j then .ok (.int (i % j)) g else .stuck
 | _,_=>.stuck
noncomputable def pNeg (x:D) (g:G):Res D:=match x with
 | .int i=>.ok (.int (-i)) g
 | _=>.stuck
noncomputable def pCmp (r:Int->Int->Bool) (x y:D) (g:G):Res D:=match x,y with
 | .int i,.int j=>.ok (.bl (r i j)) g
 | _,_=>.stuck
noncomputable def pLt:=pCmp fun i j=>decide (i<j)
noncomputable def pLe:=pCmp fun i j=>decide (i≤j)
noncomputable def pGt:=pCmp fun i j=>decide (j<i)
noncomputable def pGe:=pCmp fun i j=>decide (j≤i)
noncomputable def b2I (b:Bool):Int:=if b then 1 else 0
noncomputable def eqT (_:G) (x y:D):Option Bool:=match x,y with
 | .int i,.int j=>some (i == j)
 | .str s,.str t=>some (s == t)
 | .bl a,.bl b=>some (a == b)
 | _,_=>none
noncomputable def pEq (x y:D) (g:G):Res D:=match eqT g x y with
 | some b=>.ok (.bl b) g
 | none=>.stuck
noncomputable def Qaz:List D->Option (List Int)
 | []=>some []
 | .int i::r=>(Qaz r).map (i :: ·)
 | _::_=>none
noncomputable def neT (g:G) (x y:D):Option Bool:=match x,y with
 | .non,.non=>some true
 | .non,.int _=>some false
 | .int _,.non=>some false
 | .ref n,.ref m=>(match g[n]?,g[m]? with
  | some (.lst xs),some (.lst ys)=>(match Qaz xs,Qaz ys with
   | some is,some js=>some (decide (is=js))
   | _,_=>none)
  | _,_=>none)
 | x,y=>eqT g x y
noncomputable def pNe (x y:D) (g:G):Res D:=match neT g x y with
 | some b=>.ok (.bl (!b)) g
 | none=>.stuck
noncomputable def Qjv:D->Bool
 | .non=>true
 | _=>false
noncomputable def pIs (x y:D) (g:G):Res D:=match y with
 | .non=>.ok (.bl (Qjv x)) g
 | _=>.stuck
noncomputable def atD {α:Type} (xs:List α) (i:Int):Option α:=(ixD xs.length i).bind fun j=>xs[j]?
noncomputable def pIx (x y:D) (g:G):Res D:=match x,y with
 | .tup ds,.int i=>(match atD ds i with
  | some d=>.ok d g
  | none=>.stuck)
 | .fl ds,.int i=>(match atD ds i with
  | some d=>.ok d g
  | none=>.stuck)
 | .ref n,.int i=>(match g[n]? with
  | some (.lst ds)=>(match atD ds i with
   | some d=>.ok d g
   | none=>.stuck)
  | _=>.stuck)
 | .str s,.int i=>if s.length≤SZ then (match atD s.cps.toList i with
  | some c=>.ok (.str ⟨#[c]⟩) g
  | none=>.stuck) else .stuck
 | _,_=>.stuck
noncomputable def sIxD (n d:Nat):Option Int->Nat
 | none=>d
 | some v=>if v<0 then (v+(n:Int)).toNat else min v.toNat n
noncomputable def cutD {α:Type} (xs:List α) (lo hi:Option Int):List α:=(xs.drop (sIxD xs.length 0 lo)).take (sIxD xs.length xs.length hi - sIxD xs.length 0 lo)
noncomputable def QiM (x:D) (lo hi:Option Int) (g:G):Res D:=match x with
 | .tup ds=>.ok (.tup (cutD ds lo hi)) g
 | .fl ds=>.ok (.ref g.length) (g++[.lst (cutD ds lo hi)])
 | _=>.stuck
noncomputable abbrev MO:=S3->G->Res (Option Int)
noncomputable def Jy:MO:=fun _ g=>.ok none g
noncomputable def QcR (a:ME):MO:=fun σ g=>(a σ g).bind fun d g1=>match d with
 | .int i=>.ok (some i) g1
 | _=>.stuck
noncomputable def Qa0 (a:ME) (lo hi:MO):ME:=fun σ g=>(a σ g).bind fun x g1=>(lo σ g1).bind fun l g2=>(hi σ g2).bind fun h g3=>QiM x l h g3
noncomputable def pLen (x:D) (g:G):Res D:=match x with
 | .tup ds=>.ok (.int ds.length) g
 | .fl ds=>.ok (.int ds.length) g
 | .ref n=>(match g[n]? with
  | some (.lst ds)=>.ok (.int ds.length) g
  | _=>.stuck)
 | _=>.stuck
noncomputable def Z7 (x:D) (g:G):Res D:=match x with
 | .tup ds=>.ok (.tup ds) g
 | .fl ds=>.ok (.tup ds) g
 | .ref n=>(match g[n]? with
  | some (.lst ds)=>.ok (.tup ds) g
  | _=>.stuck)
 | _=>.stuck
noncomputable def QhE (x:D) (g:G):Res D:=match x with
 | .tup ds=>.ok (.ref g.length) (g++[.lst ds])
 | .fl ds=>.ok (.ref g.length) (g++[.lst ds])
 | .ref n=>(match g[n]? with
  | some (.lst ds)=>.ok (.ref g.length) (g++[.lst ds])
  | _=>.stuck)
 | _=>.stuck
noncomputable def ZO (o e:ME):ME:=fun σ g=>(o σ g).bind fun x g1=>match x with
 | .ref n=>(match g1[n]? with
  | some (.lst _)=>(e σ g1).bind fun y g2=>(match g2[n]? with
   | some (.lst ds)=>if ds.length<SZ then .ok .non (g2.set n (.lst (ds++[y]))) else .stuck
   | _=>.stuck)
  | _=>.stuck)
 | _=>.stuck
noncomputable def pPop (x:D) (g:G):Res D:=match x with
 | .ref n=>(match g[n]? with
  | some (.lst ds)=>(match ds[ds.length - 1]? with
   | some y=>.ok y (g.set n (.lst ds.dropLast))
   | none=>.stuck)
  | _=>.stuck)
 | _=>.stuck
inductive Ty where
 | non | bool | int | str | tuple | list | dict
 deriving DecidableEq
noncomputable def Ty.name:Ty->String
 | .non => "NoneType" | .bool => "bool" | .int => "int" | .str => "str" | .tuple => "tuple" | .list => "list" | .dict => "dict"
noncomputable def tyLe (t c:Ty):Bool:=t == c || (t == .bool && c == .int)
noncomputable def tyOf (g:G):D->Option Ty
 | .non=>some .non
 | .bl _=>some .bool
 | .int _=>some .int
 | .str _=>some .str
 | .tup _=>some .tuple
 | .fl _=>some .list
 | .ref n=>(match g[n]? with
  | some (.lst _)=>some .list
  | some (.dct _)=>some .dict
  | _=>none)
noncomputable def ZL (c:Ty) (x:D) (g:G):Res D:=match tyOf g x with
 | some t=>.ok (.bl (tyLe t c)) g
 | none=>.stuck
noncomputable def Zn (all cs:List Nat) (x:D) (g:G):Res D:=match x with
 | .ref n=>(match g[n]? with
  | some (.exc e)=>if e.1∈all then .ok (.bl (decide (e.1∈cs))) g else .stuck
  | _=>.stuck)
 | .non=>.ok (.bl false) g
 | _=>.stuck
noncomputable def allB:List D->Option Bool
 | []=>some true
 | .bl b::r=>(allB r).map (b && ·)
 | _::_=>none
noncomputable def pAll (x:D) (g:G):Res D:=match x with
 | .ref n=>(match g[n]? with
  | some (.lst ds)=>(match allB ds with
   | some b=>.ok (.bl b) g
   | none=>.stuck)
  | _=>.stuck)
 | _=>.stuck
noncomputable def Qbx:D->Bool
 | .non=>true
 | .bl _=>true
 | .int _=>true
 | .str _=>true
 | _=>false
noncomputable def eqF (x y:D):Bool:=match x,y with
 | .non,.non=>true
 | .bl a,.bl b=>a == b
 | .int i,.int j=>i == j
 | .str s,.str t=>s == t
 | .bl a,.int j=>b2I a == j
 | .int i,.bl b=>i == b2I b
 | _,_=>false
noncomputable def pIn (neg:Bool) (x y:D) (g:G):Res D:=match QG g y with
 | some (_,ds)=>if Qbx x=true∧ds.all Qbx=true then .ok (.bl (if neg=true then !(ds.any fun d=>eqF d x) else ds.any fun d=>eqF d x)) g else .stuck
 | none=>.stuck
end L3
end
section
namespace L3
open PySem PySem.Spec PyProof.Rows L2
noncomputable def SqF (K:PySem.W.Frag) (H:Hp) (a:Addr) (xs:List V):Prop:=(∃ o,H a=some (.frz o (.lst xs)))∨SqL K (fun _=>none) a xs
theorem SqF.sq {K:PySem.W.Frag} {H:Hp} {a:Addr} {xs:List V} (h:SqF K H a xs):SqL K H a xs:=by
 rcases h with⟨o,h⟩ | (h | ⟨o,h⟩) | h
 ·exact .inl (.inr ⟨o,h⟩)
 ·cases h
 ·cases h
 ·exact .inr h
mutual
inductive Den (K:PySem.W.Frag) (μ:List Addr) (H:Hp):V->D->Prop where
 | non:Den K μ H .non .non
 | bl (b:Bool):Den K μ H (.bl b) (.bl b)
 | int (i:Int):Den K μ H (.int i) (.int i)
 | str (x:Str):Den K μ H (.str x) (.str x)
 | ref {n:Nat} {a:Addr} (h:μ[n]?=some a):Den K μ H (.ref a) (.ref n)
 | tup {a:Addr} {vs:List V} {ds:List D} (h:SqT K H a vs) (hs:Dens K μ H vs ds):Den K μ H (.ref a) (.tup ds)
 | fl {a:Addr} {vs:List V} {ds:List D} (h:SqF K H a vs) (hs:Dens K μ H vs ds):Den K μ H (.ref a) (.fl ds)
inductive Dens (K:PySem.W.Frag) (μ:List Addr) (H:Hp):List V->List D->Prop where
 | nil:Dens K μ H [] []
 | cons {v:V} {d:D} {vs:List V} {ds:List D} (h:Den K μ H v d) (hs:Dens K μ H vs ds):Dens K μ H (v::vs) (d::ds)
end
structure Ext (K:PySem.W.Frag) (μ:List Addr) (H:Hp) (μ':List Addr) (H':Hp):Prop where
 pre:∃ t,μ'=μ++t
 tup:∀ a xs,SqT K H a xs->SqT K H' a xs
 fl:∀ a xs,SqF K H a xs->SqF K H' a xs
section
variable {K:PySem.W.Frag} {ca:Nat->Addr} {μ μ' μ'':List Addr} {H H' H'':Hp}
theorem Ext.refl:Ext K μ H μ H:=⟨⟨[],by simp⟩,fun _ _ h=>h,fun _ _ h=>h⟩
theorem Ext.trans (a:Ext K μ H μ' H') (b:Ext K μ' H' μ'' H''):Ext K μ H μ'' H'':=by
 obtain⟨t,e⟩:=a.pre
 obtain⟨u,f⟩:=b.pre
 exact⟨⟨t++u,by rw [f,e,List.append_assoc]⟩,fun x xs h=>b.tup x xs (a.tup x xs h),fun x xs h=>b.fl x xs (a.fl x xs h)⟩
theorem Ext.at (e:Ext K μ H μ' H') {n:Nat} {a:Addr} (h:μ[n]?=some a):μ'[n]?=some a:=by
 obtain⟨t,rfl⟩:=e.pre
 have hl:n<μ.length:=(List.getElem?_eq_some_iff.mp h).1
 rw [List.getElem?_append_left hl]
 exact h
mutual
theorem Den.mono (e:Ext K μ H μ' H'):∀ {v:V} {d:D},Den K μ H v d->Den K μ' H' v d
 | _,_,.non=>.non
 | _,_,.bl b=>.bl b
 | _,_,.int i=>.int i
 | _,_,.str x=>.str x
 | _,_,.ref h=>.ref (e.at h)
 | _,_,.tup h hs=>.tup (e.tup _ _ h) (Dens.mono e hs)
 | _,_,.fl h hs=>.fl (e.fl _ _ h) (Dens.mono e hs)
theorem Dens.mono (e:Ext K μ H μ' H'):∀ {vs:List V} {ds:List D},Dens K μ H vs ds->Dens K μ' H' vs ds
 | _,_,.nil=>.nil
 | _,_,.cons h hs=>.cons (Den.mono e h) (Dens.mono e hs)
end
theorem Dens.length:∀ {vs:List V} {ds:List D},Dens K μ H vs ds->vs.length=ds.length
 | _,_,.nil=>rfl
 | _,_,.cons _ t=>by rw [List.length_cons,List.length_cons,Dens.length t]
theorem Dens.get:∀ {vs:List V} {ds:List D} {i:Nat} {d:D},Dens K μ H vs ds->ds[i]?=some d->∃ v,vs[i]?=some v∧Den K μ H v d
 | _,_,_,_,.nil,e=>by simp at e
 | _,_,0,_,.cons r _,e=>by simp at e; subst e; exact⟨_,rfl,r⟩
 | _,_,i+1,x,.cons _ t,e=>by
  obtain⟨u,h1,h2⟩:=Dens.get (i:=i) (d:=x) t (by simpa using e)
  exact⟨u,by simpa using h1,h2⟩
theorem Dens.append:∀ {vs ws:List V} {ds es:List D},Dens K μ H vs ds->Dens K μ H ws es->Dens K μ H (vs++ws) (ds++es)
 | _,_,_,_,.nil,h=>h
 | _,_,_,_,.cons a b,h=>.cons a (Dens.append b h)
theorem Dens.set {x:V} {u:D} (r:Den K μ H x u):∀ {xs:List V} {us:List D} (i:Nat),Dens K μ H xs us->Dens K μ H (xs.set i x) (us.set i u)
 | _,_,_,.nil=>.nil
 | _,_,0,.cons _ t=>.cons r t
 | _,_,i+1,.cons q t=>.cons q (Dens.set r i t)
theorem Dens.take:∀ {xs:List V} {us:List D} (n:Nat),Dens K μ H xs us->Dens K μ H (xs.take n) (us.take n)
 | _,_,0,_=>.nil
 | _,_,_+1,.nil=>.nil
 | _,_,n+1,.cons r t=>.cons r (Dens.take n t)
theorem Dens.drop:∀ {xs:List V} {us:List D} (n:Nat),Dens K μ H xs us->Dens K μ H (xs.drop n) (us.drop n)
 | _,_,0,r=>r
 | _,_,_+1,.nil=>.nil
 | _,_,n+1,.cons _ t=>Dens.drop n t
theorem Dens.ints (ns:List Int):Dens K μ H (ns.map V.int) (ns.map D.int):=by
 induction ns with
 | nil=>exact .nil
 | cons n r ih=>exact .cons (.int n) ih
noncomputable def FRel (K:PySem.W.Frag) (μ:List Addr) (H:Hp):List (Str×V)->List (Str×D)->Prop:=Paired fun p q=>p.1=q.1∧Den K μ H p.2 q.2
noncomputable def KRel (K:PySem.W.Frag) (μ:List Addr) (H:Hp):List (Key×V)->List (Key×D)->Prop:=Paired fun p q=>p.1=q.1∧Den K μ H p.2 q.2
noncomputable def XOb (ca:Nat->Addr) (x:Xc) (o:Obj):Prop:=o.cls=.ref (ca x.1)∧o.dict=none
theorem XOb.map {ca:Nat->Addr} {x:Xc} {o:Obj} (h:XOb ca x o) (f:Array Value->Array Value):XOb ca x (o.mapFields f):=by
 obtain⟨c,d,dt,sl⟩:=o
 cases dt <;> exact h
noncomputable def XO (ca:Nat->Addr) (a:Addr) (x:Xc):HO:=.ext fun h=>∃ o vs,h.get? a=some o∧XOb ca x o∧o.data=.fields vs
noncomputable def ORep (K:PySem.W.Frag) (ca:Nat->Addr) (μ:List Addr) (H:Hp) (a:Addr):GO->Prop
 | .dct ks=>∃ kv,H a=some (.dK kv)∧KRel K μ H kv ks
 | .exc x=>H a=some (XO ca a x)
 | .lst ds=>∃ vs,H a=some (.lst vs)∧Dens K μ H vs ds
 | .ins c fs=>∃ dx fv,H a=some (.ins (ca c) dx fv)∧FRel K μ H fv fs
structure GRep (K:PySem.W.Frag) (ca:Nat->Addr) (μ:List Addr) (H:Hp) (g:G):Prop where
 len:μ.length=g.length
 nd:μ.Nodup
 obj:∀(n:Nat) (a:Addr) (o:GO),μ[n]?=some a->g[n]?=some o->ORep K ca μ H a o
structure Rep (K:PySem.W.Frag) (ca:Nat->Addr) (μ:List Addr) (σ3:S3) (g:G) (σ:L2.St) (H:Hp):Prop where
 g:GRep K ca μ H g
 len:σ.length=σ3.length
 st:∀(i:Nat) (d:D),σ3[i]?=some (some d)->∃ v,σ[i]?=some (some v)∧Den K μ H v d
theorem FRel.mono (e:Ext K μ H μ' H') {fv:List (Str×V)} {fs:List (Str×D)} (h:FRel K μ H fv fs):FRel K μ' H' fv fs:=Paired.imp' (fun _ _ q=>⟨q.1,q.2.mono e⟩) h
theorem KRel.mono (e:Ext K μ H μ' H') {fv:List (Key×V)} {fs:List (Key×D)} (h:KRel K μ H fv fs):KRel K μ' H' fv fs:=Paired.imp' (fun _ _ q=>⟨q.1,q.2.mono e⟩) h
theorem Rep.go {σ3:S3} {g g':G} {σ:L2.St} (r:Rep K ca μ σ3 g σ H) (e:Ext K μ H μ' H') (h:GRep K ca μ' H' g'):Rep K ca μ' σ3 g' σ H' :=
 ⟨h,r.len,fun i d z=>by obtain⟨v,h1,h2⟩:=r.st i d z; exact⟨v,h1,h2.mono e⟩⟩
theorem GRep.addr {g:G} (r:GRep K ca μ H g) {n:Nat} {o:GO} (h:g[n]?=some o):∃ a,μ[n]?=some a∧ORep K ca μ H a o:=by
 have hl:n<g.length:=(List.getElem?_eq_some_iff.mp h).1
 have hm:n<μ.length:=by rw [r.len]; exact hl
 exact⟨μ[n],by simp [hm],r.obj n _ o (by simp [hm]) h⟩
theorem ORep.is {a:Addr} {o:GO} (h:ORep K ca μ H a o):∃ u,H a=some u:=by
 cases o with
 | lst ds=>obtain⟨_,h,_⟩:=h; exact⟨_,h⟩
 | ins c fs=>obtain⟨_,_,h,_⟩:=h; exact⟨_,h⟩
 | dct ks=>obtain⟨_,h,_⟩:=h; exact⟨_,h⟩
 | exc x=>exact⟨_,h⟩
theorem GRep.known {g:G} (r:GRep K ca μ H g) {a:Addr} (h:a∈μ):∃ u,H a=some u:=by
 obtain⟨n,hn⟩:=List.getElem?_of_mem h
 have hl:n<μ.length:=(List.getElem?_eq_some_iff.mp hn).1
 have hg:n<g.length:=by rw [← r.len]; exact hl
 exact(r.obj n a g[n] hn (by simp [hg])).is
theorem Q8 {p:Addr} {o:HO} (hp:H p=none):Ext K μ H μ (upd H p o):=⟨⟨[],by simp⟩,fun a xs h=>by
 rcases h with(h | ⟨u,h⟩) | h
 ·exact .inl (.inl (by rw [Qq (QO h hp)]; exact h))
 ·exact .inl (.inr ⟨u,by rw [Qq (QO h hp)]; exact h⟩)
 ·exact .inr h,fun a xs h=>by
 rcases h with⟨u,h⟩ | h
 ·exact .inl ⟨u,by rw [Qq (QO h hp)]; exact h⟩
 ·exact .inr h⟩
theorem ORep.mono {a:Addr} {o:GO} (e:Ext K μ H μ' H') (ha:∀ u,H a=some u->H' a=some u) (h:ORep K ca μ H a o):ORep K ca μ' H' a o:=by
 cases o with
 | lst ds=>obtain⟨vs,h,q⟩:=h; exact⟨vs,ha _ h,q.mono e⟩
 | ins c fs=>obtain⟨dx,fv,h,q⟩:=h; exact⟨dx,fv,ha _ h,q.mono e⟩
 | dct ks=>obtain⟨kv,h,q⟩:=h; exact⟨kv,ha _ h,q.mono e⟩
 | exc x=>exact ha _ h
theorem GRep.new {g:G} {p:Addr} {o:HO} (r:GRep K ca μ H g) (hp:H p=none):GRep K ca μ (upd H p o) g :=
 ⟨r.len,r.nd,fun n a u h1 h2=>(r.obj n a u h1 h2).mono (Q8 hp) fun z hz=>by rw [Qq (QO hz hp)]; exact hz⟩
theorem QE {p:Addr} {o:HO} (hp:H p=none):Ext K μ H (μ++[p]) (upd H p o):=⟨⟨[p],rfl⟩,(Q8 (μ:=μ) hp).tup,(Q8 (μ:=μ) hp).fl⟩
theorem GRep.push {g:G} {p:Addr} {o:HO} {u:GO} (r:GRep K ca μ H g) (hp:H p=none) (ho:ORep K ca (μ++[p]) (upd H p o) p u):GRep K ca (μ++[p]) (upd H p o) (g++[u]):=by
 have nm:p∉μ:=fun h=>by
  obtain⟨z,hz⟩:=r.known h
  rw [hp] at hz; cases hz
 refine⟨by rw [List.length_append,List.length_append,r.len]; rfl,?_,fun n a w h1 h2=>?_⟩
 ·rw [List.nodup_append]
  exact⟨r.nd,by simp,fun x hx y hy e=>nm (by rw [List.mem_singleton.mp hy] at e; rw [← e]; exact hx)⟩
 ·by_cases hn:n<g.length
  ·rw [List.getElem?_append_left hn] at h2
   rw [List.getElem?_append_left (by rw [r.len]; exact hn)] at h1
   exact(r.obj n a w h1 h2).mono (QE hp) fun z hz=>by rw [Qq (QO hz hp)]; exact hz
  ·rw [List.getElem?_append_right (by omega)] at h2
   rw [List.getElem?_append_right (by rw [r.len]; omega)] at h1
   have e0:n - g.length=0:=by
    have:=(List.getElem?_eq_some_iff.mp h2).1
    simp at this; omega
   rw [e0] at h2
   rw [r.len,e0] at h1
   simp at h1 h2
   subst h1 h2
   exact ho
theorem Jz {a:Addr} {o o':HO} (h:H a=some o) (no:∀ xs,o≠.tup xs) (nf:∀ b u,o≠.frz b u):Ext K μ H μ (upd H a o'):=⟨⟨[],by simp⟩,fun b xs hb=>by
 rcases hb with(z | ⟨u,z⟩) | z
 ·exact .inl (.inl (by rw [Qq (Qja z h (Ne.symm (no xs)))]; exact z))
 ·exact .inl (.inr ⟨u,by rw [Qq (Qja z h (Ne.symm (nf u _)))]; exact z⟩)
 ·exact .inr z,fun b xs hb=>by
 rcases hb with⟨u,z⟩ | z
 ·exact .inl ⟨u,by rw [Qq (Qja z h (Ne.symm (nf u _)))]; exact z⟩
 ·exact .inr z⟩
theorem GRep.set {g:G} {n:Nat} {a:Addr} {o o':HO} {u:GO} (r:GRep K ca μ H g) (hn:μ[n]?=some a) (h:H a=some o) (no:∀ xs,o≠.tup xs) (nf:∀ b u,o≠.frz b u) (ho:ORep K ca μ (upd H a o') a u) :
  GRep K ca μ (upd H a o') (g.set n u):=by
 refine⟨by rw [List.length_set,r.len],r.nd,fun m b w h1 h2=>?_⟩
 by_cases e:m=n
 ·subst e
  rw [hn] at h1; cases h1
  have hl:m<g.length:=by
   rw [← r.len]; exact(List.getElem?_eq_some_iff.mp hn).1
  rw [List.getElem?_set_self hl] at h2; cases h2
  exact ho
 ·rw [List.getElem?_set_ne (Ne.symm e)] at h2
  have nb:b≠a:=fun z=>by
   subst z
   have e1:=(List.getElem?_eq_some_iff.mp h1)
   have e2:=(List.getElem?_eq_some_iff.mp hn)
   obtain⟨l1,q1⟩:=e1
   obtain⟨l2,q2⟩:=e2
   exact e ((List.getElem_inj r.nd).mp (q1.trans q2.symm))
  exact(r.obj m b w h1 h2).mono (Jz h no nf) fun z hz=>by rw [Qq nb]; exact hz
noncomputable abbrev XS:=Xc->L2.St->Hp->Prop
noncomputable def FpW (X:Cx) (pins:List (Addr×Obj)) (H:Hp) (b:Addr):Prop :=
 H b=none∧b≠X.env.locals∧b∉X.fs∧(b∈X.ex∨X.s₀.heap.get? b=none)∧(∀ x c,X.env.cells.lookup x=some c->c≠b)∧∀ p∈X.pn++pins,p.1≠b
structure Fl (X:Cx) (ca:Nat->Addr) (a:Addr) (x:Xc) (H:Hp) (h:Heap):Prop where
 fp:FpW X [] H a
 ln:x.2=none
 ex:∃ oe vs,h.get? a=some oe∧XOb ca x oe∧oe.data=.fields vs∧1<vs.size ∧
  (vs[1]?=some .none∨∃ T oT ts,vs[1]?=some (.ref T)∧T≠a∧FpW X [] H T∧h.get? T=some oT∧oT.data=.fields ts∧3<ts.size∧(ts[3]?=some .none∨ts[3]?=some (rawInt X.env.locals)))
noncomputable def XE (X:Cx) (ca:Nat->Addr) (Φ:XS):Value->Shared->Prop:=fun v s=>∃ a x σ H,v=.ref a∧Inv X [] σ H s∧Fl X ca a x H s.heap∧Φ x σ H
noncomputable abbrev xon (X:Cx) (pn:List (Addr×Obj)):Cx:={ X with pn:=pn,xe:=fun _ _=>False }
noncomputable abbrev xat (X:Cx) (ca:Nat->Addr) (pn:List (Addr×Obj)) (Φ:XS):Cx:={ X with pn:=pn,xe:=XE (xon X pn) ca Φ }
noncomputable def RaP (K:PySem.W.Frag) (ca:Nat->Addr) (Φ:XS) (σ:L2.St) (H:Hp) (μ:List Addr) (x:Xc) (g':G):Prop:=∀ H' μ',Ext K μ H μ' H'->GRep K ca μ' H' g'->Φ x σ H'
noncomputable def Post (K:PySem.W.Frag) (ca:Nat->Addr) (Φ:XS) (σ:L2.St) (Q:VK) (H:Hp) (μ:List Addr):Res D->Prop
 | .ok d g'=>∀ v H' μ',Ext K μ H μ' H'->GRep K ca μ' H' g'->Den K μ' H' v d->Q v H'
 | .raise x g'=>RaP K ca Φ σ H μ x g'
 | .stuck=>False
noncomputable def PostT (K:PySem.W.Frag) (ca:Nat->Addr) (Φ:XS) (σ:L2.St) (Q:Bool->Hp->Prop) (H:Hp) (μ:List Addr):Res Bool->Prop
 | .ok b g'=>∀ H' μ',Ext K μ H μ' H'->GRep K ca μ' H' g'->Q b H'
 | .raise x g'=>RaP K ca Φ σ H μ x g'
 | .stuck=>False
noncomputable def PostA (K:PySem.W.Frag) (ca:Nat->Addr) (Φ:XS) (σ:L2.St) (Q:List V->Hp->Prop) (H:Hp) (μ:List Addr):Res (List D)->Prop
 | .ok ds g'=>∀ vs H' μ',Ext K μ H μ' H'->GRep K ca μ' H' g'->Dens K μ' H' vs ds->Q vs H'
 | .raise x g'=>RaP K ca Φ σ H μ x g'
 | .stuck=>False
noncomputable def PostS (K:PySem.W.Frag) (ca:Nat->Addr) (Φ:XS) (E:Ends) (H:Hp) (μ:List Addr):Out->Prop
 | .nx σ3 g'=>∀ σ' H' μ',Ext K μ H μ' H'->Rep K ca μ' σ3 g' σ' H'->E.nx σ' H'
 | .bk σ3 g'=>∀ σ' H' μ',Ext K μ H μ' H'->Rep K ca μ' σ3 g' σ' H'->E.bk σ' H'
 | .ct σ3 g'=>∀ σ' H' μ',Ext K μ H μ' H'->Rep K ca μ' σ3 g' σ' H'->E.ct σ' H'
 | .rt d g'=>∀ v H' μ',Ext K μ H μ' H'->GRep K ca μ' H' g'->Den K μ' H' v d->E.rt v H'
 | .raise x σ3 g'=>∀ σ' H' μ',Ext K μ H μ' H'->Rep K ca μ' σ3 g' σ' H'->Φ x σ' H'
 | .stuck=>False
noncomputable def up (K:PySem.W.Frag) (ca:Nat->Addr) (Φ:XS) (m:ME):TE:=fun σ H Q=>∃ σ3 g μ,Rep K ca μ σ3 g σ H∧Post K ca Φ σ Q H μ (m σ3 g)
noncomputable def upT (K:PySem.W.Frag) (ca:Nat->Addr) (Φ:XS) (m:MT):TT:=fun σ H Q=>∃ σ3 g μ,Rep K ca μ σ3 g σ H∧PostT K ca Φ σ Q H μ (m σ3 g)
noncomputable def upA (K:PySem.W.Frag) (ca:Nat->Addr) (Φ:XS) (m:MA):TA:=fun σ H Q=>∃ σ3 g μ,Rep K ca μ σ3 g σ H∧PostA K ca Φ σ Q H μ (m σ3 g)
noncomputable def upS (K:PySem.W.Frag) (ca:Nat->Addr) (Φ:XS) (m:MS):TS:=fun E σ H=>∃ σ3 g μ,Rep K ca μ σ3 g σ H∧PostS K ca Φ E H μ (m σ3 g)
noncomputable def PE3 (ca:Nat->Addr) (X:Cx) (e:Expr) (m:ME):Prop:=∀ pn Φ,PE (xat X ca pn Φ) e (up X.K ca Φ m)
noncomputable def PT3 (ca:Nat->Addr) (X:Cx) (e:Expr) (m:MT):Prop:=∀ pn Φ,PT (xat X ca pn Φ) e (upT X.K ca Φ m)
noncomputable def PW3 (ca:Nat->Addr) (X:Cx) (e:Expr) (m:MT):Prop:=∀ pn Φ,PW (xat X ca pn Φ) e (upT X.K ca Φ m)
noncomputable def PA3 (ca:Nat->Addr) (X:Cx) (es:List Expr) (m:MA):Prop:=∀ pn Φ,PA (xat X ca pn Φ) es (upA X.K ca Φ m)
noncomputable def PS3 (ca:Nat->Addr) (X:Cx) (st:Stmt) (m:MS):Prop:=∀ pn Φ,PS (xat X ca pn Φ) st (upS X.K ca Φ m)
noncomputable def PSs3 (ca:Nat->Addr) (X:Cx) (sts:List Stmt) (m:MS):Prop:=∀ pn Φ,PSs (xat X ca pn Φ) sts (upS X.K ca Φ m)
variable {Φ:XS} {σ:L2.St}
theorem RaP.go {x:Xc} {g':G} (e:Ext K μ H μ' H') (h:RaP K ca Φ σ H μ x g'):RaP K ca Φ σ H' μ' x g':=fun H2 μ2 e2=>h H2 μ2 (e.trans e2)
theorem Post.go {Q:VK} {r:Res D} (e:Ext K μ H μ' H') (h:Post K ca Φ σ Q H μ r):Post K ca Φ σ Q H' μ' r:=by
 cases r with
 | ok d g'=>exact fun v H2 μ2 e2=>h v H2 μ2 (e.trans e2)
 | raise _ _=>exact RaP.go e h
 | stuck=>exact h
theorem PostT.go {Q:Bool->Hp->Prop} {r:Res Bool} (e:Ext K μ H μ' H') (h:PostT K ca Φ σ Q H μ r):PostT K ca Φ σ Q H' μ' r:=by
 cases r with
 | ok d g'=>exact fun H2 μ2 e2=>h H2 μ2 (e.trans e2)
 | raise _ _=>exact RaP.go e h
 | stuck=>exact h
theorem PostA.go {Q:List V->Hp->Prop} {r:Res (List D)} (e:Ext K μ H μ' H') (h:PostA K ca Φ σ Q H μ r):PostA K ca Φ σ Q H' μ' r:=by
 cases r with
 | ok d g'=>exact fun v H2 μ2 e2=>h v H2 μ2 (e.trans e2)
 | raise _ _=>exact RaP.go e h
 | stuck=>exact h
theorem PostS.go {E:Ends} {r:Out} (e:Ext K μ H μ' H') (h:PostS K ca Φ E H μ r):PostS K ca Φ E H' μ' r:=by
 cases r with
 | nx _ _=>exact fun v H2 μ2 e2=>h v H2 μ2 (e.trans e2)
 | bk _ _=>exact fun v H2 μ2 e2=>h v H2 μ2 (e.trans e2)
 | ct _ _=>exact fun v H2 μ2 e2=>h v H2 μ2 (e.trans e2)
 | rt _ _=>exact fun v H2 μ2 e2=>h v H2 μ2 (e.trans e2)
 | raise _ _ _=>exact fun v H2 μ2 e2=>h v H2 μ2 (e.trans e2)
 | stuck=>exact h
theorem Post.pure {Q:VK} {g:G} {v:V} {d:D} (h:Post K ca Φ σ Q H μ (.ok d g)) (r:GRep K ca μ H g) (q:Den K μ H v d):Q v H:=h v H μ .refl r q
theorem RaP.stmt {x:Xc} {σ3:S3} {g g':G} {E:Ends} (R:Rep K ca μ σ3 g σ H) (h:PostS K ca Φ E H μ (.raise x σ3 g')):RaP K ca Φ σ H μ x g':=fun H' μ' e r=>h σ H' μ' e (R.go e r)
theorem QdC {m:ME} {α:Type} {k:D->G->Res α} {σ3:S3} {g:G} (R:Rep K ca μ σ3 g σ H) {P:Res α->Hp->List Addr->Prop} (hp:P ((m σ3 g).bind k) H μ)
  (hst:∀ H μ,¬ P .stuck H μ) (hra:∀ e g H μ,P (.raise e g) H μ->RaP K ca Φ σ H μ e g) (hgo:∀ r H μ H' μ',Ext K μ H μ' H'->P r H μ->P r H' μ') :
  up K ca Φ m σ H fun x H1=>∃ d g1 μ1,Ext K μ H μ1 H1∧Rep K ca μ1 σ3 g1 σ H1∧Den K μ1 H1 x d∧P (k d g1) H1 μ1:=by
 refine⟨σ3,g,μ,R,?_⟩
 cases hm:m σ3 g with
 | ok d g1 =>
  rw [hm] at hp
  exact fun v H1 μ1 e1 r1 d1=>⟨d,g1,μ1,e1,R.go e1 r1,d1,hgo _ _ _ _ _ e1 hp⟩
 | raise e g1=>rw [hm] at hp; exact hra _ _ _ _ hp
 | stuck=>rw [hm] at hp; exact(hst _ _ hp).elim
theorem Y1 {m:ME} {k:D->G->Res D} {σ3:S3} {g:G} {Q:VK} (R:Rep K ca μ σ3 g σ H) (hp:Post K ca Φ σ Q H μ ((m σ3 g).bind k)) :
  up K ca Φ m σ H fun x H1=>∃ d g1 μ1,Ext K μ H μ1 H1∧Rep K ca μ1 σ3 g1 σ H1∧Den K μ1 H1 x d∧Post K ca Φ σ Q H1 μ1 (k d g1) :=
 QdC (P:=fun r H μ=>Post K ca Φ σ Q H μ r) R hp (fun _ _ h=>h) (fun _ _ _ _ h=>h) fun _ _ _ _ _ e h=>h.go e
theorem Qlg {m:ME} {k:D->G->Res Bool} {σ3:S3} {g:G} {Q:Bool->Hp->Prop} (R:Rep K ca μ σ3 g σ H) (hp:PostT K ca Φ σ Q H μ ((m σ3 g).bind k)) :
  up K ca Φ m σ H fun x H1=>∃ d g1 μ1,Ext K μ H μ1 H1∧Rep K ca μ1 σ3 g1 σ H1∧Den K μ1 H1 x d∧PostT K ca Φ σ Q H1 μ1 (k d g1) :=
 QdC (P:=fun r H μ=>PostT K ca Φ σ Q H μ r) R hp (fun _ _ h=>h) (fun _ _ _ _ h=>h) fun _ _ _ _ _ e h=>h.go e
theorem Qmw {m:ME} {k:D->G->Res (List D)} {σ3:S3} {g:G} {Q:List V->Hp->Prop} (R:Rep K ca μ σ3 g σ H) (hp:PostA K ca Φ σ Q H μ ((m σ3 g).bind k)) :
  up K ca Φ m σ H fun x H1=>∃ d g1 μ1,Ext K μ H μ1 H1∧Rep K ca μ1 σ3 g1 σ H1∧Den K μ1 H1 x d∧PostA K ca Φ σ Q H1 μ1 (k d g1) :=
 QdC (P:=fun r H μ=>PostA K ca Φ σ Q H μ r) R hp (fun _ _ h=>h) (fun _ _ _ _ h=>h) fun _ _ _ _ _ e h=>h.go e
theorem Qen {m:MT} {α:Type} {k:Bool->G->Res α} {σ3:S3} {g:G} (R:Rep K ca μ σ3 g σ H) {P:Res α->Hp->List Addr->Prop} (hp:P ((m σ3 g).bind k) H μ)
  (hst:∀ H μ,¬ P .stuck H μ) (hra:∀ e g H μ,P (.raise e g) H μ->RaP K ca Φ σ H μ e g) (hgo:∀ r H μ H' μ',Ext K μ H μ' H'->P r H μ->P r H' μ') :
  upT K ca Φ m σ H fun b H1=>∃ g1 μ1,Ext K μ H μ1 H1∧Rep K ca μ1 σ3 g1 σ H1∧P (k b g1) H1 μ1:=by
 refine⟨σ3,g,μ,R,?_⟩
 cases hm:m σ3 g with
 | ok d g1 =>
  rw [hm] at hp
  exact fun H1 μ1 e1 r1=>⟨g1,μ1,e1,R.go e1 r1,hgo _ _ _ _ _ e1 hp⟩
 | raise e g1=>rw [hm] at hp; exact hra _ _ _ _ hp
 | stuck=>rw [hm] at hp; exact(hst _ _ hp).elim
theorem Qlh {m:MT} {k:Bool->G->Res D} {σ3:S3} {g:G} {Q:VK} (R:Rep K ca μ σ3 g σ H) (hp:Post K ca Φ σ Q H μ ((m σ3 g).bind k)) :
  upT K ca Φ m σ H fun b H1=>∃ g1 μ1,Ext K μ H μ1 H1∧Rep K ca μ1 σ3 g1 σ H1∧Post K ca Φ σ Q H1 μ1 (k b g1) :=
 Qen (P:=fun r H μ=>Post K ca Φ σ Q H μ r) R hp (fun _ _ h=>h) (fun _ _ _ _ h=>h) fun _ _ _ _ _ e h=>h.go e
theorem Qf6 {m:MT} {k:Bool->G->Res Bool} {σ3:S3} {g:G} {Q:Bool->Hp->Prop} (R:Rep K ca μ σ3 g σ H) (hp:PostT K ca Φ σ Q H μ ((m σ3 g).bind k)) :
  upT K ca Φ m σ H fun b H1=>∃ g1 μ1,Ext K μ H μ1 H1∧Rep K ca μ1 σ3 g1 σ H1∧PostT K ca Φ σ Q H1 μ1 (k b g1) :=
 Qen (P:=fun r H μ=>PostT K ca Φ σ Q H μ r) R hp (fun _ _ h=>h) (fun _ _ _ _ h=>h) fun _ _ _ _ _ e h=>h.go e
theorem Qeo {m:MA} {α:Type} {k:List D->G->Res α} {σ3:S3} {g:G} (R:Rep K ca μ σ3 g σ H) {P:Res α->Hp->List Addr->Prop} (hp:P ((m σ3 g).bind k) H μ)
  (hst:∀ H μ,¬ P .stuck H μ) (hra:∀ e g H μ,P (.raise e g) H μ->RaP K ca Φ σ H μ e g) (hgo:∀ r H μ H' μ',Ext K μ H μ' H'->P r H μ->P r H' μ') :
  upA K ca Φ m σ H fun xs H1=>∃ ds g1 μ1,Ext K μ H μ1 H1∧Rep K ca μ1 σ3 g1 σ H1∧Dens K μ1 H1 xs ds∧P (k ds g1) H1 μ1:=by
 refine⟨σ3,g,μ,R,?_⟩
 cases hm:m σ3 g with
 | ok d g1 =>
  rw [hm] at hp
  exact fun v H1 μ1 e1 r1 d1=>⟨d,g1,μ1,e1,R.go e1 r1,d1,hgo _ _ _ _ _ e1 hp⟩
 | raise e g1=>rw [hm] at hp; exact hra _ _ _ _ hp
 | stuck=>rw [hm] at hp; exact(hst _ _ hp).elim
theorem QcS {m:MA} {k:List D->G->Res D} {σ3:S3} {g:G} {Q:VK} (R:Rep K ca μ σ3 g σ H) (hp:Post K ca Φ σ Q H μ ((m σ3 g).bind k)) :
  upA K ca Φ m σ H fun xs H1=>∃ ds g1 μ1,Ext K μ H μ1 H1∧Rep K ca μ1 σ3 g1 σ H1∧Dens K μ1 H1 xs ds∧Post K ca Φ σ Q H1 μ1 (k ds g1) :=
 Qeo (P:=fun r H μ=>Post K ca Φ σ Q H μ r) R hp (fun _ _ h=>h) (fun _ _ _ _ h=>h) fun _ _ _ _ _ e h=>h.go e
theorem Qli {m:MA} {k:List D->G->Res (List D)} {σ3:S3} {g:G} {Q:List V->Hp->Prop} (R:Rep K ca μ σ3 g σ H) (hp:PostA K ca Φ σ Q H μ ((m σ3 g).bind k)) :
  upA K ca Φ m σ H fun xs H1=>∃ ds g1 μ1,Ext K μ H μ1 H1∧Rep K ca μ1 σ3 g1 σ H1∧Dens K μ1 H1 xs ds∧PostA K ca Φ σ Q H1 μ1 (k ds g1) :=
 Qeo (P:=fun r H μ=>PostA K ca Φ σ Q H μ r) R hp (fun _ _ h=>h) (fun _ _ _ _ h=>h) fun _ _ _ _ _ e h=>h.go e
theorem Q9 {m:ME} {Q Q':VK} (h:up K ca Φ m σ H Q) (i:∀ x H1,Q x H1->Q' x H1):up K ca Φ m σ H Q':=by
 obtain⟨σ3,g,μ,R,p⟩:=h
 refine⟨σ3,g,μ,R,?_⟩
 cases hm:m σ3 g with
 | ok d g1=>rw [hm] at p; exact fun v H1 μ1 e r q=>i _ _ (p v H1 μ1 e r q)
 | raise e g1=>rw [hm] at p; exact p
 | stuck=>rw [hm] at p; exact p
theorem QaG {m:MT} {Q Q':Bool->Hp->Prop} (h:upT K ca Φ m σ H Q) (i:∀ x H1,Q x H1->Q' x H1):upT K ca Φ m σ H Q':=by
 obtain⟨σ3,g,μ,R,p⟩:=h
 refine⟨σ3,g,μ,R,?_⟩
 cases hm:m σ3 g with
 | ok d g1=>rw [hm] at p; exact fun H1 μ1 e r=>i _ _ (p H1 μ1 e r)
 | raise e g1=>rw [hm] at p; exact p
 | stuck=>rw [hm] at p; exact p
theorem Ji {m:MA} {Q Q':List V->Hp->Prop} (h:upA K ca Φ m σ H Q) (i:∀ x H1,Q x H1->Q' x H1):upA K ca Φ m σ H Q':=by
 obtain⟨σ3,g,μ,R,p⟩:=h
 refine⟨σ3,g,μ,R,?_⟩
 cases hm:m σ3 g with
 | ok d g1=>rw [hm] at p; exact fun v H1 μ1 e r q=>i _ _ (p v H1 μ1 e r q)
 | raise e g1=>rw [hm] at p; exact p
 | stuck=>rw [hm] at p; exact p
end
theorem Q7 {X:Cx} {e:Expr} {t t':TE} (h:PE X e t) (i:∀ σ H Q,t' σ H Q->t σ H Q):PE X e t':=fun pins s σ H Q I q=>h pins s σ H Q I (i σ H Q q)
theorem QdD {X:Cx} {e:Expr} {t t':TT} (h:PT X e t) (i:∀ σ H Q,t' σ H Q->t σ H Q):PT X e t':=fun pins s σ H Q I q=>h pins s σ H Q I (i σ H Q q)
theorem Qf7 {X:Cx} {e:Expr} {t t':TT} (h:PW X e t) (i:∀ σ H Q,t' σ H Q->t σ H Q):PW X e t':=fun w pins s σ H Q I q=>h w pins s σ H Q I (i σ H Q q)
theorem Qf8 {X:Cx} {e:List Expr} {t t':TA} (h:PA X e t) (i:∀ σ H Q,t' σ H Q->t σ H Q):PA X e t':=fun p pins s σ H Q I q=>h p pins s σ H Q I (i σ H Q q)
theorem Yk {X:Cx} {e:Stmt} {t t':TS} (h:PS X e t) (i:∀ D σ H,t' D σ H->t D σ H):PS X e t':=fun pins s σ H D I q=>h pins s σ H D I (i D σ H q)
theorem Qep {X:Cx} {e:List Stmt} {t t':TS} (h:PSs X e t) (i:∀ D σ H,t' D σ H->t D σ H):PSs X e t':=fun pins s σ H D I q=>h pins s σ H D I (i D σ H q)
section
variable {X:Cx} {ca:Nat->Addr} {a b c e:Expr} {es rest:List Expr} {ma mb me:ME} {tc ta tb:MT} {mr:MA} {pos:Pos}
theorem Qb (i:Nat) {x:Str} (hN:X.N[i]?=some x:=by rfl) (hv:Vis X.env.scope x:=by first | exact Or.inl rfl | exact Or.inr (Or.inl rfl) | exact Or.inr (Or.inr rfl)) (hd:(x == ("__debug__" : Str))=false:=by decide)
  (hcd:(x == ("__classdict__" : Str))=false:=by decide):PE3 ca X (.Name x pos) (mVar i) :=
 fun pn Φ=>Q7 (QkB (X:=xat X ca pn Φ) hN hv hd hcd) fun σ H Q hQ=>by
  obtain⟨σ3,g,μ,R,p⟩:=hQ
  unfold mVar at p
  cases e:σ3[i]? with
  | none=>rw [e] at p; exact p.elim
  | some o =>
   cases o with
   | none=>rw [e] at p; exact p.elim
   | some d =>
    rw [e] at p
    obtain⟨v,h1,h2⟩:=R.st i d e
    exact⟨v,h1,p v H μ .refl R.g h2⟩
theorem Qf9 {v:V} {d:D} (h:∀ pn Φ,PE (xat X ca pn Φ) e (tC v)) (hd:∀ K μ H,Den K μ H v d):PE3 ca X e (mLit d) :=
 fun pn Φ=>Q7 (h pn Φ) fun _ H _ ⟨_,_,μ,R,p⟩=>p v H μ .refl R.g (hd _ _ _)
theorem Qi {i:Int} {j:Nat}:PE3 ca X (.Constant (.int i) j pos) (mLit (.int i)):=Qf9 (fun _ _=>QkC) fun _ _ _=>.int i
theorem Qga {x:Str} {j:Nat}:PE3 ca X (.Constant (.str x) j pos) (mLit (.str x)):=Qf9 (fun _ _=>QkE) fun _ _ _=>.str x
theorem r_bl {x:Bool} {j:Nat}:PE3 ca X (.Constant (.bool x) j pos) (mLit (.bl x)):=Qf9 (fun _ _=>Qme) fun _ _ _=>.bl x
theorem QcT {j:Nat}:PE3 ca X (.Constant .none j pos) (mLit .non):=Qf9 (fun _ _=>QkD) fun _ _ _=>.non
theorem QiN {x:Str} {v:V} {u:Value} {d:D} (hm:X.mg x=some u) (r:RelV v u) (hd':∀ K μ H,Den K μ H v d) (hg:Gl X x:=by rfl) (hd:(x == ("__debug__" : Str))=false:=by decide):PE3 ca X (.Name x pos) (mLit d) :=
 Qf9 (fun pn Φ=>Qdz (X:=xat X ca pn Φ) hg hm r hd) hd'
noncomputable def Y3 (K:PySem.W.Frag) (ca:Nat->Addr) (r:R2) (f:D->D->G->Res D):Prop :=
 ∀(Φ:XS) (σ:L2.St) (H:Hp) (μ:List Addr) (g:G) (x y:V) (dx dy:D) (Q:VK),GRep K ca μ H g->Den K μ H x dx->Den K μ H y dy->Post K ca Φ σ Q H μ (f dx dy g)->r x y H Q
theorem Qeq {K:PySem.W.Frag} {Φ:XS} {r:R2} {f:D->D->G->Res D} (hp:Y3 K ca r f) (σ:L2.St) (H:Hp) (Q:VK) (h:up K ca Φ (mOp2 f ma mb) σ H Q):tOp r (up K ca Φ ma) (up K ca Φ mb) σ H Q:=by
 obtain⟨σ3,g,μ,R,p⟩:=h
 refine Q9 (Y1 R p) fun x H1 ⟨dx,g1,μ1,e1,R1,q1,p1⟩=>?_
 refine Q9 (Y1 R1 p1) fun y H2 ⟨dy,g2,μ2,e2,R2,q2,p2⟩=>?_
 exact hp Φ σ H2 μ2 g2 x y dx dy Q R2.g (q1.mono e2) q2 p2
theorem Qfa {op:Operator} {r:R2} {f:D->D->G->Res D} (ho:∀ pn Φ,OpR (xat X ca pn Φ) (binaryOp op) r) (hp:Y3 X.K ca r f) (ha:PE3 ca X a ma) (hb:PE3 ca X b mb):PE3 ca X (.BinOp a op b pos) (mOp2 f ma mb) :=
 fun pn Φ=>Q7 (Qmn (ho pn Φ) (ha pn Φ) (hb pn Φ)) (Qeq hp)
theorem Qjw {op:CmpOp} {r:R2} {f:D->D->G->Res D} (ho:∀ pn Φ,OpR (xat X ca pn Φ) (compareOp op) r) (hp:Y3 X.K ca r f) (ha:PE3 ca X a ma) (hb:PE3 ca X b mb) (hm:behindInMarks op b=false):PE3 ca X (.Compare a [op] [b] pos) (mOp2 f ma mb) :=
 fun pn Φ=>Q7 (Qjj (ho pn Φ) (ha pn Φ) (hb pn Φ) hm) (Qeq hp)
theorem r_ix {r:R2} {f:D->D->G->Res D} (ho:∀ pn Φ,IxR (xat X ca pn Φ) r) (hp:Y3 X.K ca r f) (ha:PE3 ca X a ma) (hb:PE3 ca X b mb) (hs:Qb2 b:=by exact fun _ _=>rfl):PE3 ca X (.Subscript a b pos) (mOp2 f ma mb) :=
 fun pn Φ=>Q7 (Qmu (ho pn Φ) (ha pn Φ) (hb pn Φ) hs) (Qeq hp)
theorem r_un {op:UnaryOp} {r:V->Hp->VK->Prop} {f:D->G->Res D} (ho:∀ pn Φ,UnR (xat X ca pn Φ) (unaryOp op) r)
  (hp:∀(Φ:XS) (σ:L2.St) (H:Hp) (μ:List Addr) (g:G) (x:V) (dx:D) (Q:VK),GRep X.K ca μ H g->Den X.K μ H x dx->Post X.K ca Φ σ Q H μ (f dx g)->r x H Q) (ha:PE3 ca X a ma):PE3 ca X (.UnaryOp op a pos) (mOp1 f ma) :=
 fun pn Φ=>Q7 (Qmo (ho pn Φ) (ha pn Φ)) fun σ H Q ⟨σ3,g,μ,R,p⟩=>Q9 (Y1 R p) fun x H1 ⟨dx,g1,μ1,e1,R1,q1,p1⟩=>hp Φ σ H1 μ1 g1 x dx Q R1.g q1 p1
theorem Qk:PA3 ca X [] mNil:=fun pn Φ=>Qf8 (Qel (X:=xat X ca pn Φ)) fun _ H _ ⟨_,_,μ,R,p⟩=>p [] H μ .refl R.g .nil
theorem YY (ha:PE3 ca X e me) (hr:PA3 ca X es mr) (hs:starEach (e::es) X.env=(false,eval e X.env)::starEach es X.env:=by rfl):PA3 ca X (e::es) (Qa me mr) :=
 fun pn Φ=>Qf8 (Jx (X:=xat X ca pn Φ) (ha pn Φ) (hr pn Φ) hs) fun σ H Q ⟨σ3,g,μ,R,p⟩=>Q9 (Qmw R p) fun x H1 ⟨d,g1,μ1,e1,R1,q1,p1⟩ =>
  Ji (Qli R1 p1) fun xs H2 ⟨ds,g2,μ2,e2,R2,q2,p2⟩=>p2 (x::xs) H2 μ2 .refl R2.g (.cons (q1.mono e2) q2)
theorem Q1 (ha:PE3 ca X a ma) (he:∀ whole,isTrue a X.env whole=(do let v ← whole; standAt a.pos; holding [v] (truthy v)):=by intro _; rfl):PT3 ca X a (Qf ma) :=
 fun pn Φ=>QdD (QkF (X:=xat X ca pn Φ) (ha pn Φ) he) fun σ H Q ⟨σ3,g,μ,R,p⟩=>Q9 (Qlg R p) fun x H1 hQ=>by
  obtain⟨d,g1,μ1,e1,R1,q1,p1⟩:=hQ
  cases q1 with
  | bl b=>exact⟨b,rfl,p1 H1 μ1 .refl R1.g⟩
  | _=>exact p1.elim
theorem JA {op:CmpOp} {r:R2} {f:D->D->G->Res D} (ho:∀ pn Φ,OpR (xat X ca pn Φ) (compareOp op) r) (hp:Y3 X.K ca r f) (ha:PE3 ca X a ma) (hb:PE3 ca X b mb) (hm:behindInMarks op b=false):PT3 ca X (.Compare a [op] [b] pos) (Qf (mOp2 f ma mb)) :=
 fun pn Φ=>QdD (Qjk (ho pn Φ) (ha pn Φ) (hb pn Φ) hm) fun σ H Q hQ=>by
  obtain⟨σ3,g,μ,R,p⟩:=hQ
  have q:up X.K ca Φ (mOp2 f ma mb) σ H fun x H'=>∃ k,x=.bl k∧Q k H':=Q9 (Qlg R p) fun x H1 hQ=>by
   obtain⟨d,g1,μ1,e1,R1,q1,p1⟩:=hQ
   cases q1 with
   | bl b=>exact⟨b,rfl,p1 H1 μ1 .refl R1.g⟩
   | _=>exact p1.elim
  exact Qeq hp σ H _ q
theorem Jt (ha:PT3 ca X a ta):PT3 ca X (.UnaryOp .Not a pos) (YZ ta) :=
 fun pn Φ=>QdD (QkI (X:=xat X ca pn Φ) (ha pn Φ)) fun σ H Q ⟨σ3,g,μ,R,p⟩=>QaG (Qf6 R p) fun b H1 ⟨g1,μ1,e1,R1,p1⟩=>p1 H1 μ1 .refl R1.g
theorem Qgb (ha:PT3 ca X a ta):PW3 ca X (.BoolOp .And [a] pos) ta:=fun pn Φ=>Qjd (X:=xat X ca pn Φ) (ha pn Φ)
theorem Qau (ha:PT3 ca X a ta):PW3 ca X (.BoolOp .Or [a] pos) ta:=fun pn Φ=>QkG (X:=xat X ca pn Φ) (ha pn Φ)
theorem QiO (ha:PT3 ca X a ta) (hb:PW3 ca X (.BoolOp .And (b::rest) pos) tb):PW3 ca X (.BoolOp .And (a::b::rest) pos) (Qbw ta tb) :=
 fun pn Φ=>Qf7 (QkH (X:=xat X ca pn Φ) (ha pn Φ) (hb pn Φ)) fun σ H Q ⟨σ3,g,μ,R,p⟩=>QaG (Qf6 R p) fun b H1 hQ=>by
  obtain⟨g1,μ1,e1,R1,p1⟩:=hQ
  cases b with
  | true=>rw [if_pos rfl] at p1 ⊢; exact⟨σ3,g1,μ1,R1,p1⟩
  | false=>rw [if_neg Bool.false_ne_true] at p1 ⊢; exact p1 H1 μ1 .refl R1.g
theorem QaA (ha:PT3 ca X a ta) (hb:PW3 ca X (.BoolOp .Or (b::rest) pos) tb):PW3 ca X (.BoolOp .Or (a::b::rest) pos) (mOrT ta tb) :=
 fun pn Φ=>Qf7 (Qmf (X:=xat X ca pn Φ) (ha pn Φ) (hb pn Φ)) fun σ H Q ⟨σ3,g,μ,R,p⟩=>QaG (Qf6 R p) fun b H1 hQ=>by
  obtain⟨g1,μ1,e1,R1,p1⟩:=hQ
  cases b with
  | true=>rw [if_pos rfl] at p1 ⊢; exact p1 H1 μ1 .refl R1.g
  | false=>rw [if_neg Bool.false_ne_true] at p1 ⊢; exact⟨σ3,g1,μ1,R1,p1⟩
theorem r_w (h:PW3 ca X e ta):PT3 ca X e ta:=fun pn Φ=>(h pn Φ).pt
theorem Qlj (ha:PE3 ca X a ma):PE3 ca X (.UnaryOp .Not a pos) (mNot ma) :=
 fun pn Φ=>Q7 (QkL (X:=xat X ca pn Φ) (ha pn Φ)) fun σ H Q ⟨σ3,g,μ,R,p⟩=>Q9 (Y1 R p) fun x H1 hQ=>by
  obtain⟨d,g1,μ1,e1,R1,q1,p1⟩:=hQ
  cases q1 with
  | bl b=>exact⟨b,rfl,p1 _ H1 μ1 .refl R1.g (.bl _)⟩
  | _=>exact p1.elim
theorem Qb6 {op:BoolOp} (ha:PE3 ca X a ma):PE3 ca X (.BoolOp op [a] pos) ma:=fun pn Φ=>QkJ (X:=xat X ca pn Φ) (ha pn Φ)
theorem Qa1 (ha:PE3 ca X a ma) (hb:PE3 ca X (.BoolOp .And (b::rest) pos) mb):PE3 ca X (.BoolOp .And (a::b::rest) pos) (mAnd ma mb) :=
 fun pn Φ=>Q7 (QkK (X:=xat X ca pn Φ) (ha pn Φ) (hb pn Φ)) fun σ H Q ⟨σ3,g,μ,R,p⟩=>Q9 (Y1 R p) fun x H1 hQ=>by
  obtain⟨d,g1,μ1,e1,R1,q1,p1⟩:=hQ
  cases q1 with
  | bl b =>
   refine⟨b,rfl,?_⟩
   cases b with
   | true=>rw [if_pos rfl]; exact⟨σ3,g1,μ1,R1,p1⟩
   | false=>rw [if_neg Bool.false_ne_true]; exact p1 _ H1 μ1 .refl R1.g (.bl _)
  | _=>exact p1.elim
theorem Qmx (hc:PT3 ca X c tc) (ha:PE3 ca X a ma) (hb:PE3 ca X b mb):PE3 ca X (.IfExp c a b pos) (mIfE tc ma mb) :=
 fun pn Φ=>Q7 (Qhp (X:=xat X ca pn Φ) (hc pn Φ) (ha pn Φ) (hb pn Φ)) fun σ H Q ⟨σ3,g,μ,R,p⟩=>QaG (Qlh R p) fun b H1 hQ=>by
  obtain⟨g1,μ1,e1,R1,p1⟩:=hQ
  cases b with
  | true=>rw [if_pos rfl] at p1 ⊢; exact⟨σ3,g1,μ1,R1,p1⟩
  | false=>rw [if_neg Bool.false_ne_true] at p1 ⊢; exact⟨σ3,g1,μ1,R1,p1⟩
theorem JB:SZ≤sizeLine:=by rw [sizeLine_eq]; decide
theorem Dens.sz {K:PySem.W.Frag} {μ:List Addr} {H:Hp} {vs:List V} {ds:List D} (h:Dens K μ H vs ds) (z:ds.length≤SZ):vs.length≤sizeLine:=by rw [h.length]; exact Nat.le_trans z JB
theorem Zv {k:Nat} (h:PA3 ca X es mr):PE3 ca X (.Tuple es k pos) (mOpA pTup mr) :=
 fun pn Φ=>Q7 (Qk5 (X:=xat X ca pn Φ) (h pn Φ)) fun σ H Q ⟨σ3,g,μ,R,p⟩=>Ji (QcS R p) fun xs H1 hQ=>by
  obtain⟨ds,g1,μ1,e1,R1,q1,p1⟩:=hQ
  unfold pTup at p1
  by_cases z:ds.length≤SZ
  ·rw [if_pos z] at p1
   exact⟨q1.sz z,fun t ht=>p1 _ _ μ1 (Q8 ht) (R1.g.new ht) (.tup (.of Qn) (q1.mono (Q8 ht)))⟩
  ·rw [if_neg z] at p1; exact p1.elim
theorem Qgc (h:PA3 ca X es mr):PE3 ca X (.List es pos) (mOpA newL mr) :=
 fun pn Φ=>Q7 (Qk6 (X:=xat X ca pn Φ) (h pn Φ)) fun σ H Q ⟨σ3,g,μ,R,p⟩=>Ji (QcS R p) fun xs H1 hQ=>by
  obtain⟨ds,g1,μ1,e1,R1,q1,p1⟩:=hQ
  unfold newL at p1
  by_cases z:ds.length≤SZ
  ·rw [if_pos z] at p1
   refine⟨q1.sz z,fun t ht=>p1 _ _ (μ1++[t]) (QE ht) (R1.g.push ht ⟨xs,Qn,q1.mono (QE ht)⟩) (.ref ?_)⟩
   rw [← R1.g.len]; simp
  ·rw [if_neg z] at p1; exact p1.elim
end
end L3
end
section
namespace L3
open PySem PySem.Spec PyProof.Rows L2
section
variable {X:Cx} {ca:Nat->Addr} {pins:List (Addr×Obj)} {σ:L2.St} {H:Hp} {s:Shared} {a:Addr} {x:Xc} {E:Value->Shared->Prop}
theorem QiP {pn:List (Addr×Obj)} {Φ:XS} (I:Inv (xat X ca pn Φ) pins σ H s):Inv (xon X pn) pins σ H s:=(Inv.wish I fun _ _=>False)
theorem Qer {b:Addr} {H':Hp} (I:Inv X pins σ H s) (hb:s.heap.get? b=none) (hn:H' b=none):FpW X pins H' b:=by
 refine⟨hn,fun z=>?_,fun z=>?_,?_,fun x c e z=>?_,fun p hp z=>?_⟩
 ·obtain⟨m,⟨o,_,_,ho,_⟩,_⟩:=I.loc
  rw [z,ho] at hb; cases hb
 ·obtain⟨_,o,ho,_⟩:=I.funs.mem z
  rw [ho] at hb; cases hb
 ·by_cases hx:b∈X.ex
  ·exact .inl hx
  ·refine .inr ?_
   cases q:X.s₀.heap.get? b with
   | none=>rfl
   | some o =>
    obtain⟨o',e'⟩:=I.base.there b o q hx
    rw [e'] at hb; cases hb
 ·obtain⟨v,o,ho,_⟩:=I.cell x c e
  rw [z,hb] at ho; cases ho
 ·rw [← z,(I.pin p hp).1] at hb; cases hb
theorem QcU {H':Hp} {h':Heap} {g':Array GenState} {t':Nat} {d':Drawn} {ch:List Addr} (I:Inv X pins σ H s)
  (hch:∀ b∈ch,(b∈X.ex∨X.s₀.heap.get? b=none)∧b≠X.env.locals∧(∀ x c,X.env.cells.lookup x=some c->c≠b)∧∀ p∈X.pn++pins,p.1≠b)
  (keep:∀ b o,b≠X.env.locals->b∉X.fs->b∉ch->s.heap.get? b=some o->H b=none->h'.get? b=some o)
  (slot:∀ b o,b≠X.env.locals->b∈X.fs->b∉ch->s.heap.get? b=some o->H b=none->∃ sl,h'.get? b=some { o with slots:=sl }) (free:∀ b o,b∉ch->s.heap.get? b=some o->H b=none->H' b=none)
  (there:∀ b o,b∉ch->s.heap.get? b=some o->∃ o',h'.get? b=some o')
  (tups:∀ b xs,H b=some (.tup xs)->H' b=some (.tup xs)) (frzs:∀ b o u,H b=some (.frz o u)->H' b=some (.frz o u)) (tbls:∀ b ps,H b=some (.tbl ps)->∃ more,H' b=some (.tbl (ps++more)))
  (ns:∀ m,s.heap.Ns X.env.locals m->h'.Ns X.env.locals m) (hok:HOk X.prog X.w H' h') (hg:AllBare g') :
  Inv X pins σ H' { s with heap:=h',gens:=g',drawn:=d',toks:=t' }:=by
 have neL:∀ b o,X.s₀.heap.get? b=some o->b≠X.env.locals:=fun b o e=>Nat.ne_of_lt (Nat.lt_of_lt_of_le (Heap.lt_size e) I.ok.above)
 have neC:∀ b o,X.s₀.heap.get? b=some o->b∉X.ex->b∉ch:=fun b o e hx hb=>by
  rcases(hch b hb).1 with z | z
  ·exact hx z
  ·rw [z] at e; cases e
 have cellK:∀ x c,X.env.cells.lookup x=some c->∀ v,s.heap.IsCell c v->h'.IsCell c v:=fun x c e v hQ=>by
  obtain⟨o,ho,hd⟩:=hQ
  have nch:c∉ch:=fun z=>(hch c z).2.2.1 x c e rfl
  by_cases hc:c∈X.fs
  ·obtain⟨sl,q⟩:=slot c o (I.cne x c e) hc nch ho (I.freeC x c e)
   exact⟨_,q,hd⟩
  ·exact⟨o,keep c o (I.cne x c e) hc nch ho (I.freeC x c e),hd⟩
 refine⟨I.ok,I.os,hg,⟨fun b o e n hb hx=>?_,fun b o e n hb hx=>?_,fun b o e n hx=>?_,fun b o e hx=>?_,fun b xs e=>tups b xs (I.base.tups b xs e),fun b o xs e=>frzs b o xs (I.base.frzs b o xs e),fun b ps e=>?_⟩,?_,fun x c e=>?_,?_,fun x c e=>?_,fun p hp=>?_,hok,I.len⟩
 ·exact keep b o (neL b o e) hb (neC b o e hx) (I.base.keep b o e n hb hx) (I.base.free b o e n hx)
 ·obtain⟨sl,e1⟩:=I.base.slot b o e n hb hx
  obtain⟨sl',e2⟩:=slot b _ (neL b o e) hb (neC b o e hx) e1 (I.base.free b o e n hx)
  exact⟨sl',e2⟩
 ·obtain⟨o',e1⟩:=I.base.there b o e hx
  exact free b o' (neC b o e hx) e1 (I.base.free b o e n hx)
 ·obtain⟨o',e1⟩:=I.base.there b o e hx
  exact there b o' (neC b o e hx) e1
 ·obtain⟨m1,e1⟩:=I.base.tbls b ps e
  obtain⟨m2,e2⟩:=tbls b _ e1
  exact⟨m1++m2,by rw [e2,Array.append_assoc]⟩
 ·obtain⟨m,hn,hl⟩:=I.loc
  refine⟨m,ns m hn,fun i x v e1 e2 e3=>?_⟩
  obtain⟨u,r,l⟩:=hl i x v e1 e2 e3
  refine⟨u,r,?_⟩
  rcases l with l | ⟨k,c,e,z⟩
  ·exact .inl l
  ·exact .inr ⟨k,c,e,cellK x c e _ z⟩
 ·obtain⟨v,z⟩:=I.cell x c e
  exact⟨v,cellK x c e v z⟩
 ·obtain⟨m,⟨o,_,_,ho,_⟩,_⟩:=I.loc
  exact free _ o (fun z=>(hch _ z).2.1 rfl) ho I.free
 ·obtain⟨v,o,ho,hd⟩:=I.cell x c e
  exact free c o (fun z=>(hch c z).2.2.1 x c e rfl) ho (I.freeC x c e)
 ·obtain⟨e,n,ne,nf,d⟩:=I.pin p hp
  have nch:p.1∉ch:=fun z=>(hch p.1 z).2.2.2 p hp rfl
  exact⟨keep p.1 p.2 ne nf nch e n,free p.1 p.2 nch e n,ne,nf,d⟩
theorem Qes {ch:List Addr} {h':Heap} (I:Inv X pins σ H s) (hch:∀ b∈ch,FpW X pins H b) (keep:∀ b o,b∉ch->b≠X.env.locals->b∉X.fs->s.heap.get? b=some o->h'.get? b=some o)
  (slot:∀ b o,b∉ch->s.heap.get? b=some o->∃ sl,h'.get? b=some { o with slots:=sl }):Inv X pins σ H { s with heap:=h' }:=by
 have nl:X.env.locals∉ch:=fun z=>(hch _ z).2.1 rfl
 have nt:∀ b v,H b=some v->b∉ch:=fun b v e z=>by rw [(hch b z).1] at e; cases e
 have nf:∀ b v,H b=some v->b∉X.fs:=fun b v e z=>by
  obtain⟨_,o,ho,_⟩:=I.ok.funs.mem z
  have:=I.base.free b o ho (I.ok.frf b z) fun q=>I.ok.exfs b q z
  rw [this] at e; cases e
 have nL:∀ b v,H b=some v->b≠X.env.locals:=fun b v e z=>by rw [z,I.free] at e; cases e
 refine QcU (h':=h') (H':=H) (g':=s.gens) (t':=s.toks) (d':=s.drawn) (ch:=ch) I (fun b hb=>⟨(hch b hb).2.2.2.1,(hch b hb).2.1,(hch b hb).2.2.2.2.1,(hch b hb).2.2.2.2.2⟩) (fun b o h1 h2 h3 e _=>keep b o h3 h1 h2 e) (fun b o _ _ h3 e _=>slot b o h3 e)
  (fun b o _ _ n=>n) (fun b o h e=>let ⟨sl,q⟩:=slot b o h e; ⟨_,q⟩) (fun b v e=>e) (fun b o v e=>e) (fun b ps e=>⟨#[],by rw [e]; simp⟩) (fun m hm=>?_) (fun b v e=>?_) I.bare
 ·obtain⟨o,es,ep,ho,rr⟩:=hm
  obtain⟨sl,q⟩:=slot _ o nl ho
  exact⟨_,es,ep,q,rr⟩
 ·refine(I.hok b v e).stay (fun c' v' hc' q=>?_) (fun c' q=>q) fun c' xs' q=>q
  rcases hc' with rfl | hc'
  ·exact keep _ _ (nt _ _ e) (nL _ _ e) (nf _ _ e) q
  ·exact keep _ _ (nt _ _ hc') (nL _ _ hc') (nf _ _ hc') q
noncomputable def FlN (X:Cx) (ca:Nat->Addr) (a:Addr) (x:Xc) (H:Hp) (h:Heap):Prop :=
 FpW X [] H a∧x.2=none∧∃ oe vs T oT ts,h.get? a=some oe∧XOb ca x oe∧oe.data=.fields vs∧vs[1]?=some (.ref T)∧T≠a∧FpW X [] H T∧h.get? T=some oT∧oT.data=.fields ts∧ts[3]?=some (rawInt X.env.locals)
noncomputable def FlT (X:Cx) (ca:Nat->Addr) (a:Addr) (x:Xc) (H:Hp) (h:Heap):Prop :=
 FpW X [] H a∧x.2=none∧∃ oe vs T oT ts,h.get? a=some oe∧XOb ca x oe∧oe.data=.fields vs∧vs[1]?=some (.ref T)∧T≠a∧FpW X [] H T∧h.get? T=some oT∧oT.data=.fields ts∧3<ts.size
theorem FlN.t {h:Heap} (f:FlN X ca a x H h):FlT X ca a x H h:=by
 obtain⟨f1,f2,oe,vs,T,oT,ts,e1,e2,e3,e4,e5,e6,e7,e8,e9⟩:=f
 exact⟨f1,f2,oe,vs,T,oT,ts,e1,e2,e3,e4,e5,e6,e7,e8,(Array.getElem?_eq_some_iff.mp e9).1⟩
theorem FlN.fl {h:Heap} (f:FlN X ca a x H h):Fl X ca a x H h:=by
 obtain⟨f1,f2,oe,vs,T,oT,ts,e1,e2,e3,e4,e5,e6,e7,e8,e9⟩:=f
 exact⟨f1,f2,oe,vs,e1,e2,e3,(Array.getElem?_eq_some_iff.mp e4).1,.inr ⟨T,oT,ts,e4,e5,e6,e7,e8,(Array.getElem?_eq_some_iff.mp e9).1,.inr e9⟩⟩
theorem QbI {h:Heap} {b:Addr} {o:Obj} {ts:Array Value} (i:Nat) (v:Value) (e:h.get? b=some o) (d:o.data=.fields ts) :
  (h.update b (Obj.mapFields (·.setIfInBounds i v))).get? b=some (o.mapFields (·.setIfInBounds i v))∧(o.mapFields (·.setIfInBounds i v)).data=.fields (ts.setIfInBounds i v)∧(o.mapFields (·.setIfInBounds i v)).cls=o.cls :=
 ⟨Heap.get?_update_self _ e (Obj.isFreed_of_fields (Obj.data_mapFields d _)),Obj.data_mapFields d _,Obj.cls_mapFields _ _⟩
theorem Qet {base:Heap} {env:Env} {outer:List Env} {L:Addr} {oe:Obj} {vs:Array Value} {head:Value} {hn:Bool} {M:Model} {A:Around} {Q:Unit->Shared->Prop} (hfr:A.frames=some (env::outer)) (hl:s.heap.FunFrames base (env::outer)) (hf:env.frame=some L)
  (he:s.heap.get? a=some oe) (hd:oe.data=.fields vs) (hsz:1<vs.size) (ha:a∉(env::outer).filterMap (·.frame))
  (k:∀ h₁ (cells:Array Value),Heap.SlotsOnly ((env::outer).filterMap (·.frame)) s.heap h₁->cells[3]?=some (rawInt L) ->
   Q () { s with heap:=(h₁.push { cls:=.type "traceback",dict:=none,data:=.fields cells }).update a (Obj.mapFields (·.setIfInBounds 1 (.ref h₁.objs.size))) }) :
  wpAny M A (do let fv ← frameOf env; let pl ← entryPlaceOf L hn; let b ← EntryCells.newEntry head fv .none (rawInt L) .none pl; setField (.ref a) 1 b) Q E s:=by
 refine wpAny_bind (wpAny_frameOf_fun hfr hl hf fun h₁ so=>wpAny_bind (wpAny_entryPlaceOf fun pl hpl=>?_))
 unfold EntryCells.newEntry newFields
 refine wpAny_bind (wpAny_newObj_type ?_ (hpl.sizeOk5 _ _ _ _ _))
 have e1:h₁.get? a=some oe:=(so.2.1 a ha).trans he
 refine wpAny_setField (Heap.get?_push_of_some _ e1) hd hsz (k h₁ _ so ?_)
 first
  | (simp; done)
  | (rcases hpl with rfl | ⟨_,_,_,_,_,_,_,rfl⟩ <;> simp)
theorem QdE {M:Model} {Q:Unit->Shared->Prop} (I:Inv X [] σ H s) (hk:X.stack=X.env::X.outer) (hf:X.env.frame=some X.env.locals) (fl:Fl X ca a x H s.heap)
  (k:∀ h',Inv X [] σ H { s with heap:=h' }->FlN X ca a x H h'->Q () { s with heap:=h' }):wpAny M X.A (noteFrame (.ref a) X.env) Q E s:=by
 obtain⟨fp,ln,oe,vs,he,hc,hd,hsz,hv⟩:=fl
 have hfr:X.A.frames=some (X.env::X.outer):=by rw [← hk]; exact I.ok.frames
 have hst:s.heap.FunFrames X.base (X.env::X.outer):=by rw [← hk]; exact I.stack
 have hfs:(X.env::X.outer).filterMap (·.frame)=X.env.locals::X.fs:=by rw [List.filterMap_cons,hf]; rfl
 have ha:a∉(X.env::X.outer).filterMap (·.frame):=by
  rw [hfs]
  intro z
  rcases List.mem_cons.mp z with z | z
  ·exact fp.2.1 z
  ·exact fp.2.2.1 z
 -- an entry is laid over a heap that differs from s at ch alone
 have fin:∀(h0 h₁:Heap) (cells:Array Value) (ch:List Addr),(∀ b∈ch,FpW X [] H b)->(∀ b o,b∉ch->s.heap.get? b=some o->h0.get? b=some o)->h0.objs.size=s.heap.objs.size->h0.get? a=some oe ->
   Heap.SlotsOnly ((X.env::X.outer).filterMap (·.frame)) h0 h₁->cells[3]?=some (rawInt X.env.locals) ->
   Q () { s with heap:=(h₁.push { cls:=.type "traceback",dict:=none,data:=.fields cells }).update a (Obj.mapFields (·.setIfInBounds 1 (.ref h₁.objs.size))) }:=by
  intro h0 h₁ cells ch hch hk0 hz he0 so hcl
  have e1:h₁.get? a=some oe:=(so.2.1 a ha).trans he0
  obtain⟨u1,u2,u3⟩:=QbI 1 (.ref h₁.objs.size) (Heap.get?_push_of_some { cls:=.type "traceback",dict:=none,data:=.fields cells } e1) hd
  have hTa:h₁.objs.size≠a:=Nat.ne_of_gt (Heap.lt_size e1)
  have oth:∀ b o,b≠a->h₁.get? b=some o->((h₁.push { cls:=.type "traceback",dict:=none,data:=.fields cells }).update a (Obj.mapFields (·.setIfInBounds 1 (.ref h₁.objs.size)))).get? b=some o:=fun b o hb e =>
   (Heap.get?_update_other _ _ (Ne.symm hb)).trans (Heap.get?_push_of_some _ e)
  refine k _ (Qes (ch:=a::ch) I (fun b hb=>?_) (fun b o h1 h2 h3 e=>?_) fun b o h1 e=>?_) ⟨fp,ln,_,_,h₁.objs.size,_,cells,u1,hc.map _,u2,by simp [hsz],hTa,?_,(Heap.get?_update_other _ _ (Ne.symm hTa)).trans (Heap.get?_push_size _ rfl),rfl,hcl⟩
  ·rcases List.mem_cons.mp hb with e | e
   ·rw [e]; exact fp
   ·exact hch b e
  ·refine oth b o (fun z=>h1 (by rw [z]; exact List.mem_cons_self)) ?_
   rw [so.2.1 b (by rw [hfs]; intro z; rcases List.mem_cons.mp z with z | z; (· exact h2 z); exact h3 z)]
   exact hk0 b o (fun z=>h1 (List.mem_cons_of_mem _ z)) e
  ·obtain⟨sl,q⟩:=so.2.2 b o (hk0 b o (fun z=>h1 (List.mem_cons_of_mem _ z)) e)
   exact⟨sl,oth b _ (fun z=>h1 (by rw [z]; exact List.mem_cons_self)) q⟩
  ·refine Qer I (Heap.get?_none_of_le ?_) (I.hok.fresh ?_) <;> rw [so.1,hz] <;> exact Nat.le_refl _
 unfold noteFrame
 simp only [hf]
 rcases hv with hv | ⟨T,oT,ts,hv,hTa,fT,hT,hdT,hs3,h3⟩
 ·refine wpAny_bind (wpAny_field he hd hv ?_)
  rw [if_neg (by decide)]
  exact Qet hfr hst hf he hd hsz ha fun h₁ cells so hcl=>fin s.heap h₁ cells [] (by simp) (fun _ _ _ e=>e) rfl he so hcl
 ·refine wpAny_bind (wpAny_field he hd hv ?_)
  rw [if_pos (show(Value.ref T != Value.none)=true from by simp)]
  rcases h3 with h3 | h3
  ·refine wpAny_bind (wpAny_field hT hdT h3 ?_)
   rw [if_neg (show ¬ ((Value.none == rawInt X.env.locals)=true) from by simp [rawInt])]
   refine wpAny_bind (wpAny_setField hT hdT hs3 ?_)
   have oth:∀ b o,b≠T->s.heap.get? b=some o->(s.heap.update T (Obj.mapFields (·.setIfInBounds 3 Value.none))).get? b=some o:=fun b o hb e=>(Heap.get?_update_other _ _ (Ne.symm hb)).trans e
   have kp:∀ b o,s.heap.get? b=some o->(∀ vs,o.data≠.fields vs)->(s.heap.update T (Obj.mapFields (·.setIfInBounds 3 Value.none))).get? b=some o:=fun b o e n=>oth b o (fun z=>by rw [z,hT] at e; cases e; exact n _ hdT) e
   refine Qet (s:={ s with heap:=s.heap.update T (Obj.mapFields (·.setIfInBounds 3 Value.none)) }) hfr (hst.of_keeps fun b o e n=>⟨o,kp b o e n,rfl⟩) hf (oth a oe (Ne.symm hTa) he) hd hsz ha fun h₁ cells so hcl=>?_
   exact fin _ h₁ cells [T] (fun b hb=>by rw [List.mem_singleton.mp hb]; exact fT) (fun b o hb e=>oth b o (fun z=>hb (by simp [z])) e) (Heap.size_after_update ..) (oth a oe (Ne.symm hTa) he) so hcl
  ·refine wpAny_bind (wpAny_field hT hdT h3 ?_)
   rw [if_pos (show(rawInt X.env.locals == rawInt X.env.locals)=true from by simp)]
   exact wpAny_pure (k s.heap I ⟨fp,ln,oe,vs,T,oT,ts,he,hc,hd,hv,hTa,fT,hT,hdT,h3⟩)
theorem Y4 {M:Model} {A:Around} {Q:Unit->Shared->Prop} {fo:Option Addr} (I:Inv X [] σ H s) (fl:FlT X ca a x H s.heap) (k:∀ h' T oT ts oe vs,Inv X [] σ H { s with heap:=h' }->h'.get? a=some oe->XOb ca x oe->oe.data=.fields vs->vs[1]?=some (.ref T)->T≠a->FpW X [] H T ->
      h'.get? T=some oT->oT.data=.fields ts->3<ts.size->ts[3]?=some (fo.elim Value.none fun f=>rawInt f)->Q () { s with heap:=h' }):wpAny M A (setFlight (.ref a) fo) Q E s:=by
  obtain⟨fp,ln,oe,vs,T,oT,ts,he,hc,hd,hv,hTa,fT,hT,hdT,hs3⟩:=fl
  unfold setFlight
  refine wpAny_bind (wpAny_field he hd hv ?_)
  rw [if_pos (show(Value.ref T != Value.none)=true from by simp)]
  have oth:∀ b o,b≠T->s.heap.get? b=some o->(s.heap.update T (Obj.mapFields (·.setIfInBounds 3 (fo.elim Value.none fun f=>rawInt f)))).get? b=some o:=fun b o hb e=>(Heap.get?_update_other _ _ (Ne.symm hb)).trans e
  obtain⟨u1,u2,u3⟩:=QbI 3 (fo.elim Value.none fun f=>rawInt f) hT hdT
  refine wpAny_setField hT hdT hs3 (k _ T _ _ oe vs (Qes (ch:=[T]) I (fun b hb=>by rw [List.mem_singleton.mp hb]; exact fT) (fun b o h1 _ _ e=>oth b o (fun z=>h1 (by simp [z])) e) fun b o h1 e=>⟨o.slots,oth b o (fun z=>h1 (by simp [z])) e⟩)
    (oth a oe (Ne.symm hTa) he) hc hd hv hTa fT u1 u2 (by simpa using hs3) (by simp [hs3]))
theorem QiQ (hk:X.stack=X.env::X.outer) (hf:X.env.frame=some X.env.locals) (pn:List (Addr×Obj)) (Φ:XS):PassesOwn (model X.prog X.w) X.A X.env (xat X ca pn Φ).xe:=by
 rintro v s ⟨a,x,σ,H,rfl,I,fl,q⟩
 refine QdE (X:=xon X pn) I hk hf fl fun h1 I1 f1=>?_
 unfold cameBackBy
 obtain⟨fp,ln,oe,vs,T,oT,ts,he,hc,hd,hv,hTa,fT,hT,hdT,h3⟩:=id f1
 refine wpAny_bind (wpAny_field he hd hv ?_)
 rw [if_neg (show ¬ ((Value.ref T == Value.none)=true) from by simp)]
 refine Y4 (X:=xon X pn) (fo:=X.env.frame) I1 f1.t fun h2 T oT ts oe vs I2 a1 a2 a3 a4 a5 a6 a7 a8 a9 a10=>?_
 rw [hf] at a10
 exact⟨a,x,σ,H,rfl,I2,FlN.fl ⟨fp,ln,oe,vs,T,oT,ts,a1,a2,a3,a4,a5,a6,a7,a8,a10⟩,q⟩
end
noncomputable def CXW (P:Program) (w:World) (ca:Nat->Addr):CXT:=fun outer H s E v s'=>∃(a:Addr) (x:Xc) (H':Hp),v=.ref a∧s'.os=s.os∧AllBare s'.gens∧Un (frs outer) [] H H' s.heap s'.heap∧HOk P w H' s'.heap∧x.2=none ∧
 (∃ oe vs T oT ts,s.heap.get? a=none∧H' a=none∧s'.heap.get? a=some oe∧XOb ca x oe∧oe.data=.fields vs∧vs[1]?=some (.ref T)∧T≠a∧s.heap.get? T=none∧H' T=none∧s'.heap.get? T=some oT∧oT.data=.fields ts∧ts[3]?=some .none) ∧
 E (.int x.1 0) x.2 H'
section
variable {P:Program} {w:World} {K:PySem.W.Frag} {mg:Str->Option Value} {base:Heap} {ca:Nat->Addr}
theorem QhF {N:List Str} {qual:Str} {scope:Scope} {f:Addr} {cd:Value} {A:Around} {outer:List Env} {s s':Shared} {H:Hp} {E:XK} {v:Value}
  (h:XE (xon (cxOf (CXW P w ca) P w K mg base N qual scope f cd A outer s H E) []) ca (fun x _ H'=>E (.int x.1 0) x.2 H') v s'):(cxOf (CXW P w ca) P w K mg base N qual scope f cd A outer s H E).xe v s':=by
 obtain⟨a,x,σ,H',rfl,I,fl,q⟩:=h
 show wpAny _ _ (leaving _ (.ref a)) _ _ s'
 unfold leaving
 refine wpAny_bind (QdE I rfl rfl fl fun h1 I1 f1=>?_)
 obtain⟨fp,ln,_⟩:=id f1
 refine Y4 (fo:=none) I1 f1.t fun h2 T oT ts oe vs I2 a1 a2 a3 a4 a5 a6 a7 a8 a9 a10=>?_
 refine⟨a,x,H',rfl,I2.os,I2.bare,I2.base,I2.hok,ln,⟨oe,vs,T,oT,ts,?_,fp.1,a1,a2,a3,a4,a5,?_,a6.1,a7,a8,a10⟩,q⟩
 ·rcases fp.2.2.2.1 with z | z
  ·exact absurd (show a∈([]:List Addr) from z) (by simp)
  ·exact z
 ·rcases a6.2.2.2.1 with z | z
  ·exact absurd (show T∈([]:List Addr) from z) (by simp)
  ·exact z
end
section
variable {X:Cx} {ca:Nat->Addr} {pn:List (Addr×Obj)} {Φ:XS}
theorem Qgd {pins:List (Addr×Obj)} {σ:L2.St} {H:Hp} {s s':Shared} {v:Value} (I:Inv (xat X ca pn Φ) pins σ H s) (h:CXW X.prog X.w ca X.stack H s (fun c l H'=>∀ x:Xc,c=.int x.1 0->l=x.2->Φ x σ H') v s'):(xat X ca pn Φ).xe v s':=by
 obtain⟨a,x,H',rfl,os,bare,un,hok,ln,⟨oe,vs,T,oT,ts,e1,e2,e3,e4,e5,e6,e7,e8,e9,e10,e11,e12⟩,q⟩:=h
 have I0:Inv (xon X pn) [] σ H s:=(QiP I).pins_of fun p hp=>absurd hp (by simp)
 have I1:Inv (xon X pn) [] σ H' s':=Inv.call' (ch:=[]) I0 os un hok bare fun b z=>absurd z (by simp)
 refine⟨a,x,σ,H',rfl,I1,⟨Qer I0 e1 e2,ln,oe,vs,e3,e4,e5,(Array.getElem?_eq_some_iff.mp e6).1,.inr ⟨T,oT,ts,e6,e7,Qer I0 e8 e9,e10,e11,(Array.getElem?_eq_some_iff.mp e12).1,.inl e12⟩⟩,q x rfl rfl⟩
end
end L3
end
section
namespace L3
open PySem PySem.Spec PyProof.Rows L2
section
variable {X:Cx} {ca:Nat->Addr} {a b c e:Expr} {st:Stmt} {sts rest:List Stmt} {ma mb me:ME} {tc:MT} {m m':MS} {pos:Pos}
theorem QC:PSs3 ca X [] QB:=fun pn Φ=>Qep (QfQ (X:=xat X ca pn Φ)) fun _ σ H ⟨_,_,μ,R,p⟩=>p σ H μ .refl R
theorem Qlk {K:PySem.W.Frag} {Φ:XS} (E:Ends) (σ:L2.St) (H:Hp) (h:upS K ca Φ (mSeq m m') E σ H):tSeq (upS K ca Φ m) (upS K ca Φ m') E σ H:=by
 obtain⟨σ3,g,μ,R,p⟩:=h
 refine⟨σ3,g,μ,R,?_⟩
 unfold mSeq at p
 cases hm:m σ3 g with
 | nx σ1 g1 =>
  rw [hm] at p
  exact fun σ' H' μ' e' R'=>⟨σ1,g1,μ',R',PostS.go e' p⟩
 | rt d g1=>rw [hm] at p; exact p
 | bk _ _=>rw [hm] at p; exact p
 | ct _ _=>rw [hm] at p; exact p
 | raise _ _ _=>rw [hm] at p; exact p
 | stuck=>rw [hm] at p; exact p
theorem Qc (h1:PS3 ca X st m) (h2:PSs3 ca X rest m'):PSs3 ca X (st::rest) (mSeq m m'):=fun pn Φ=>Qep (Qhq (X:=xat X ca pn Φ) (h1 pn Φ) (h2 pn Φ)) Qlk
theorem Qh (h1:PS3 ca X st m):PSs3 ca X [st] m:=fun pn Φ=>Qje (X:=xat X ca pn Φ) (h1 pn Φ)
theorem Qb7:PS3 ca X st QaX:=fun pn Φ=>Yk (Qhr (X:=xat X ca pn Φ)) fun _ _ _ ⟨_,_,_,_,p⟩=>p
theorem Yv (he:PE3 ca X e me) (hs:swapsWith e none pos.line X.env=pure false:=by rfl):PS3 ca X (.Expr e pos) (ZA me) :=
 fun pn Φ=>Yk (Qjf (X:=xat X ca pn Φ) (he pn Φ) hs) fun E σ H ⟨σ3,g,μ,R,p⟩=>⟨σ3,g,μ,R,by
  unfold ZA at p
  cases hm:me σ3 g with
  | ok d g1=>rw [hm] at p; exact fun v H' μ' e' r' _=>p σ H' μ' e' (R.go e' r')
  | raise _ _=>rw [hm] at p; exact RaP.stmt R p
  | stuck=>rw [hm] at p; exact p⟩
theorem QU (he:PE3 ca X e me):PS3 ca X (.Return (some e) pos) (mRet me) :=
 fun pn Φ=>Yk (QkM (X:=xat X ca pn Φ) (he pn Φ)) fun E σ H ⟨σ3,g,μ,R,p⟩=>⟨σ3,g,μ,R,by
  unfold mRet at p
  cases hm:me σ3 g with
  | ok d g1=>rw [hm] at p; exact p
  | raise _ _=>rw [hm] at p; exact RaP.stmt R p
  | stuck=>rw [hm] at p; exact p⟩
theorem r_if {sa sb:List Stmt} (hc:PT3 ca X c tc) (ha:PSs3 ca X sa m) (hb:PSs3 ca X sb m'):PS3 ca X (.If c sa sb pos) (mIf tc m m') :=
 fun pn Φ=>Yk (Qmk (X:=xat X ca pn Φ) (hc pn Φ) (ha pn Φ) (hb pn Φ)) fun E σ H ⟨σ3,g,μ,R,p⟩=>⟨σ3,g,μ,R,by
  unfold mIf at p
  cases hm:tc σ3 g with
  | ok d g1 =>
   rw [hm] at p
   cases d with
   | true=>exact fun H' μ' e' r'=>by show(if true=true then _ else _); rw [if_pos rfl]; exact⟨σ3,g1,μ',R.go e' r',PostS.go e' (by simpa using p)⟩
   | false=>exact fun H' μ' e' r'=>by show(if false=true then _ else _); rw [if_neg Bool.false_ne_true]; exact⟨σ3,g1,μ',R.go e' r',PostS.go e' (by simpa using p)⟩
  | raise _ _=>rw [hm] at p; exact RaP.stmt R p
  | stuck=>rw [hm] at p; exact p⟩
noncomputable def upG (K:PySem.W.Frag) (ca:Nat->Addr) (f:MG):TG:=fun v σ H Q=>∃ σ3 g μ d σ3',Rep K ca μ σ3 g σ H∧Den K μ H v d∧f d σ3=some σ3'∧∀ σ',Rep K ca μ σ3' g σ' H->Q σ' H
noncomputable def PG3 (ca:Nat->Addr) (X:Cx) (tg:Expr) (f:MG):Prop:=∀ pn Φ,PG (xat X ca pn Φ) tg (upG X.K ca f)
theorem Qge {X:Cx} {tg:Expr} {t t':TG} (h:PG X tg t) (i:∀ v σ H Q,t' v σ H Q->t v σ H Q):PG X tg t':=fun pins s σ H x u Q I r q=>h pins s σ H x u Q I r (i x σ H Q q)
theorem Rep.set {K:PySem.W.Frag} {μ:List Addr} {σ3:S3} {g:G} {σ:L2.St} {H:Hp} {v:V} {d:D} (R:Rep K ca μ σ3 g σ H) (h:Den K μ H v d) (i:Nat):Rep K ca μ (σ3.set i (some d)) g (σ.set i (some v)) H:=by
 refine⟨R.g,by rw [List.length_set,List.length_set,R.len],fun j x hx=>?_⟩
 by_cases e:j=i
 ·subst e
  have hl:j<σ3.length:=by
   have:=(List.getElem?_eq_some_iff.mp hx).1
   simpa using this
  rw [List.getElem?_set_self hl] at hx
  cases hx
  exact⟨v,by rw [List.getElem?_set_self (by rw [R.len]; exact hl)],h⟩
 ·rw [List.getElem?_set_ne (Ne.symm e)] at hx
  obtain⟨w,h1,h2⟩:=R.st j x hx
  exact⟨w,by rw [List.getElem?_set_ne (Ne.symm e)]; exact h1,h2⟩
theorem Q0 (i:Nat) {x:Str} (hN:X.N.Nodup) (hi:X.N[i]?=some x:=by rfl) (hx:Loc X.env.scope x:=by first | exact Or.inl rfl | exact Or.inr rfl)
  (hf:X.fn x=true∨X.env.scope.names.lookup x=some .local:=by first | exact .inl rfl | exact .inr rfl):PG3 ca X (.Name x pos) (gSet i) :=
 fun pn Φ=>Qge (Qjg (X:=xat X ca pn Φ) hN hi hx hf) fun v σ H Q hQ=>by
  obtain⟨σ3,g,μ,d,σ3',R,q,e,k⟩:=hQ
  cases e
  exact k _ (R.set q i)
noncomputable def upGs (K:PySem.W.Frag) (ca:Nat->Addr) (fs:List MG):TGs:=fun vs σ H Q=>∃ σ3 g μ ds σ3',Rep K ca μ σ3 g σ H∧Dens K μ H vs ds∧Qe9 fs ds σ3=some σ3'∧∀ σ',Rep K ca μ σ3' g σ' H->Q σ' H
noncomputable def PGs3 (ca:Nat->Addr) (X:Cx) (tgs:List Expr) (fs:List MG):Prop:=∀ pn Φ,PGs (xat X ca pn Φ) tgs (upGs X.K ca fs)
theorem Qeu {X:Cx} {tg:List Expr} {t t':TGs} (h:PGs X tg t) (i:∀ v σ H Q,t' v σ H Q->t v σ H Q):PGs X tg t':=fun pins s σ H xs us Q I r q=>h pins s σ H xs us Q I r (i xs σ H Q q)
theorem Qav:PGs3 ca X [] []:=fun pn Φ=>Qeu (Qjh (X:=xat X ca pn Φ)) fun vs σ H Q hQ=>by
 obtain⟨σ3,g,μ,ds,σ3',R,q,e,k⟩:=hQ
 cases q with
 | nil=>cases e; exact⟨rfl,k _ R⟩
 | cons _ _=>cases e
theorem Za {es:List Expr} {f:MG} {fs:List MG} (h1:PG3 ca X e f) (h2:PGs3 ca X es fs)
  (hs:(assignEach (e::es) X.env).map (·.2)=assign e X.env::(assignEach es X.env).map (·.2):=by rfl):PGs3 ca X (e::es) (f::fs) :=
 fun pn Φ=>Qeu (Qhs (X:=xat X ca pn Φ) (h1 pn Φ) (h2 pn Φ) hs) fun vs σ H Q hQ=>by
  obtain⟨σ3,g,μ,ds,σ3',R,q,e,k⟩:=hQ
  cases q with
  | nil=>cases e
  | @cons v d vs ds q1 q2 =>
   unfold Qe9 at e
   cases hf:f d σ3 with
   | none=>rw [hf] at e; cases e
   | some σ4 =>
    rw [hf] at e
    exact⟨v,vs,rfl,σ3,g,μ,d,σ4,R,q1,hf,fun σ' R'=>⟨σ4,g,μ,ds,σ3',R',q2,e,k⟩⟩
theorem QcV:∀ {fs:List MG} {ds:List D} {σ σ':S3},Qe9 fs ds σ=some σ'->ds.length=fs.length
 | [],[],_,_,_=>rfl
 | [],_::_,_,_,h=>by cases h
 | _::_,[],_,_,h=>by cases h
 | f::fs,d::ds,σ,σ',h=>by
  unfold Qe9 at h
  cases hf:f d σ with
  | none=>rw [hf] at h; cases h
  | some σ4 =>
   rw [hf] at h
   rw [List.length_cons,List.length_cons,QcV (fs:=fs) h]
theorem Qaw {es:List Expr} {k:Nat} {fs:List MG} (hc:X.calm=true) (h:PGs3 ca X es fs) (hn:(assignEach es X.env).length=fs.length:=by rfl)
  (hst:(assignEach es X.env).findIdx? (·.1)=none:=by rfl):PG3 ca X (.Tuple es k pos) (Z6 fs) :=
 fun pn Φ=>Qge (QkP (X:=xat X ca pn Φ) hc (h pn Φ) hn hst) fun v σ H Q hQ=>by
  obtain⟨σ3,g,μ,d,σ3',R,q,e,kk⟩:=hQ
  cases q with
  | @tup a vs ds ht hs =>
   exact⟨a,vs,rfl,ht,hs.length.trans (QcV e),σ3,g,μ,ds,σ3',R,hs,e,kk⟩
  | _=>cases e
theorem Qll {K:PySem.W.Frag} {Φ:XS} {f:MG} (E:Ends) (σ:L2.St) (H:Hp) (h:upS K ca Φ (mAsg f me) E σ H):tAsg (up K ca Φ me) (upG K ca f) E σ H:=by
 obtain⟨σ3,g,μ,R,p⟩:=h
 refine⟨σ3,g,μ,R,?_⟩
 unfold mAsg at p
 cases hm:me σ3 g with
 | ok d g1 =>
  rw [hm] at p
  dsimp only at p
  intro v H' μ' e' r' q'
  cases hf:f d σ3 with
  | none=>rw [hf] at p; exact p.elim
  | some σ4 =>
   rw [hf] at p
   exact⟨σ3,g1,μ',d,σ4,R.go e' r',q',hf,fun σ' R'=>p σ' H' μ' e' R'⟩
 | raise _ _=>rw [hm] at p; exact RaP.stmt R p
 | stuck=>rw [hm] at p; exact p
theorem Qjx {tg:Expr} {f:MG} (he:PE3 ca X e me) (hg:PG3 ca X tg f) (hs:swapsWithSole [tg] e pos.line X.env=pure false:=by rfl) (hw:swappedStores [tg] e X.env=pure none:=by rfl)
  (h1:(assignEach [tg] X.env).map (·.2)=[assign tg X.env]:=by rfl):PS3 ca X (.Assign [tg] e pos) (mAsg f me) :=
 fun pn Φ=>Yk (QfR (X:=xat X ca pn Φ) (he pn Φ) (hg pn Φ) hs hw h1) Qll
theorem Qmy (i:Nat) {x:Str} {pos':Pos} (hN:X.N.Nodup) (he:PE3 ca X e me) (hi:X.N[i]?=some x:=by rfl) (hx:Loc X.env.scope x:=by first | exact Or.inl rfl | exact Or.inr rfl)
  (hs:swapsWith e (some (.Name x pos')) pos.line X.env=pure false:=by rfl) (hf:X.fn x=true∨X.env.scope.names.lookup x=some .local:=by first | exact .inl rfl | exact .inr rfl) :
  PS3 ca X (.Assign [.Name x pos'] e pos) (mAsg (gSet i) me) :=
 fun pn Φ=>Yk (QkQ (X:=xat X ca pn Φ) hN hi hx (he pn Φ) hs hf) fun E σ H h=>by
  obtain⟨σ3,g,μ,R,p⟩:=h
  refine⟨σ3,g,μ,R,?_⟩
  unfold mAsg gSet at p
  cases hm:me σ3 g with
  | ok d g1 =>
   rw [hm] at p
   exact fun v H' μ' e' r' q'=>p _ H' μ' e' ((R.go e' r').set q' i)
  | raise _ _=>rw [hm] at p; exact RaP.stmt R p
  | stuck=>rw [hm] at p; exact p
structure FldOk (K:PySem.W.Frag) (ca:Nat->Addr) (cs:List Nat) (f:Str):Prop where
 cl:∀ c∈cs,Cls K (ca c)
 no:∀ c∈cs,NoAttr K (ca c) f
theorem FRel.look {K:PySem.W.Frag} {μ:List Addr} {H:Hp} {f:Str} {d:D}:∀ {fv:List (Str×V)} {fs:List (Str×D)},FRel K μ H fv fs->fs.lookup f=some d->∃ v,fv.lookup f=some v∧Den K μ H v d
 | _,_,.nil,h=>by cases h
 | (k,v)::r,(k',d')::r',.cons ⟨e,q⟩ t,h=>by
  have e:k=k':=e
  subst e
  cases hb:f == k with
  | true =>
   simp only [List.lookup,hb] at h ⊢
   cases h
   exact⟨v,rfl,q⟩
  | false =>
   simp only [List.lookup,hb] at h ⊢
   exact FRel.look t h
theorem FRel.no {K:PySem.W.Frag} {μ:List Addr} {H:Hp} {f:Str}:∀ {fv:List (Str×V)} {fs:List (Str×D)},FRel K μ H fv fs->fs.lookup f=Option.none->fv.lookup f=Option.none
 | _,_,.nil,_=>rfl
 | (k,v)::r,(k',d')::r',.cons ⟨e,q⟩ t,h=>by
  have e:k=k':=e
  subst e
  cases hb:f == k with
  | true=>simp only [List.lookup,hb] at h; cases h
  | false =>
   simp only [List.lookup,hb] at h ⊢
   exact FRel.no t h
theorem FRel.put {K:PySem.W.Frag} {μ:List Addr} {H:Hp} {f:Str} {v:V} {d:D} (q:Den K μ H v d):∀ {fv:List (Str×V)} {fs:List (Str×D)},FRel K μ H fv fs->FRel K μ H (putF f v fv) (putG f d fs)
 | _,_,.nil=>.cons ⟨rfl,q⟩ .nil
 | (k,w)::r,(k',d')::r',.cons ⟨e,z⟩ t=>by
  have e:k=k':=e
  subst e
  show FRel K μ H (if k=f then (k,v)::r else (k,w)::putF f v r) (if k=f then (k,d)::r' else (k,d')::putG f d r')
  by_cases h:k=f
  ·rw [if_pos h,if_pos h]; exact .cons ⟨rfl,q⟩ t
  ·rw [if_neg h,if_neg h]; exact .cons ⟨rfl,z⟩ (FRel.put q t)
theorem Q2 {cs:List Nat} {f:Str} (he:PE3 ca X e me) (ok:FldOk X.K ca cs f) (hb:attributeBase e f X.env (eval e X.env)=eval e X.env:=by rfl):PE3 ca X (.Attribute e f pos) (QF cs f me) :=
 fun pn Φ=>Q7 (Qk3 (X:=xat X ca pn Φ) (he pn Φ) hb) fun σ H Q ⟨σ3,g,μ,R,p⟩=>Q9 (Y1 R p) fun x H1 hQ=>by
  obtain⟨d,g1,μ1,e1,R1,q1,p1⟩:=hQ
  cases q1 with
  | @ref n a hn =>
   dsimp only at p1
   cases hg:g1[n]? with
   | none=>rw [hg] at p1; exact p1.elim
   | some o =>
    rw [hg] at p1
    obtain⟨a',ha',ob⟩:=R1.g.addr hg
    rw [hn] at ha'; cases ha'
    cases o with
    | ins c fs =>
     dsimp only at p1
     obtain⟨dx,fv,hH,fr⟩:=ob
     by_cases hc:c∈cs
     ·rw [if_pos hc] at p1
      cases hl:fs.lookup f with
      | none=>rw [hl] at p1; exact p1.elim
      | some y =>
       rw [hl] at p1
       obtain⟨v,h1,h2⟩:=fr.look hl
       exact⟨a,ca c,dx,fv,v,rfl,hH,ok.cl c hc,ok.no c hc,h1,p1 v H1 μ1 .refl R1.g h2⟩
     ·rw [if_neg hc] at p1; exact p1.elim
    | _=>exact p1.elim
  | _=>exact p1.elim
theorem ZP {o:Expr} {mo:ME} {cs:List Nat} {f:Str} {pos':Pos} (ho:PE3 ca X o mo) (he:PE3 ca X e me) (ok:FldOk X.K ca cs f) (hs:swapsWith e (some (.Attribute o f pos')) pos.line X.env=pure false:=by rfl) :
  PS3 ca X (.Assign [.Attribute o f pos'] e pos) (QN cs f mo me) :=
 fun pn Φ=>Yk (Qk4 (X:=xat X ca pn Φ) (ho pn Φ) (he pn Φ) hs) fun E σ H ⟨σ3,g,μ,R,p⟩=>⟨σ3,g,μ,R,by
  unfold QN at p
  cases hm:me σ3 g with
  | ok y g1 =>
   rw [hm] at p
   dsimp only at p
   intro vy H1 μ1 e1 r1 q1
   refine⟨σ3,g1,μ1,R.go e1 r1,?_⟩
   cases hm2:mo σ3 g1 with
   | ok d g2 =>
    rw [hm2] at p
    intro vx H2 μ2 e2 r2 q2
    cases q2 with
    | @ref n a hn =>
     dsimp only at p
     cases hg:g2[n]? with
     | none=>rw [hg] at p; exact p.elim
     | some ob =>
      rw [hg] at p
      obtain⟨a',ha',orp⟩:=r2.addr hg
      rw [hn] at ha'; cases ha'
      cases ob with
      | ins c fs =>
       dsimp only at p
       obtain⟨dx,fv,hH,fr⟩:=orp
       by_cases hc:c∈cs∧fs.length<100
       ·rw [if_pos hc] at p
        have fl:fv.length=fs.length:=Paired.length fr
        refine⟨a,ca c,dx,fv,rfl,hH,ok.cl c hc.1,ok.no c hc.1,by omega,?_⟩
        have ex:Ext X.K μ2 H2 μ2 (upd H2 a (.ins (ca c) dx (putF f vy fv))):=Jz hH (by intro _ z; cases z) (by intro _ _ z; cases z)
        refine p σ _ μ2 ((e1.trans e2).trans ex) ((R.go (e1.trans e2) r2).go ex ?_)
        exact r2.set hn hH (by intro _ z; cases z) (by intro _ _ z; cases z) ⟨dx,_,Qn,FRel.put ((q1.mono e2).mono ex) (fr.mono ex)⟩
       ·rw [if_neg hc] at p; exact p.elim
      | _=>exact p.elim
    | _=>exact p.elim
   | raise _ _=>rw [hm2] at p; exact(RaP.stmt R p).go e1
   | stuck=>rw [hm2] at p; exact p
  | raise _ _=>rw [hm] at p; exact RaP.stmt R p
  | stuck=>rw [hm] at p; exact p⟩
theorem Qjy {o i:Expr} {mo mi:ME} {pos':Pos} (ho:PE3 ca X o mo) (hi:PE3 ca X i mi) (he:PE3 ca X e me) (hs:swapsWithSole [.Subscript o i pos'] e pos.line X.env=pure false:=by rfl)
  (hw:swappedStores [.Subscript o i pos'] e X.env=pure none:=by rfl) (h1:(assignEach [.Subscript o i pos'] X.env).map (·.2)=[assign (.Subscript o i pos') X.env]:=by rfl)
  (ha:∀ v,assign (.Subscript o i pos') X.env v=(do
   let ov ← holding [v] (eval o X.env)
   let iv ← holding [v,ov] (eval i X.env)
   standAt pos'
   holding [v,ov,iv] (setItem ov iv v)
   release [v,ov,iv] []):=by intro _; rfl):PS3 ca X (.Assign [.Subscript o i pos'] e pos) (QcQ mo mi me) :=
 fun pn Φ=>Yk (QfR (X:=xat X ca pn Φ) (he pn Φ) (QiI (X:=xat X ca pn Φ) (ho pn Φ) (hi pn Φ) QhC ha) hs hw h1) fun E σ H ⟨σ3,g,μ,R,p⟩=>⟨σ3,g,μ,R,by
  unfold QcQ at p
  cases hm:me σ3 g with
  | ok y g1 =>
   rw [hm] at p
   dsimp only at p
   intro vy H1 μ1 e1 r1 q1
   refine⟨σ3,g1,μ1,R.go e1 r1,?_⟩
   cases hm2:mo σ3 g1 with
   | ok d g2 =>
    rw [hm2] at p
    intro vx H2 μ2 e2 r2 q2
    cases q2 with
    | @ref n a hn =>
     dsimp only at p
     refine⟨σ3,g2,μ2,R.go (e1.trans e2) r2,?_⟩
     cases hm3:mi σ3 g2 with
     | ok di g3 =>
      rw [hm3] at p
      intro vi H3 μ3 e3 r3 q3
      cases q3 with
      | int k =>
       dsimp only at p
       cases hg:g3[n]? with
       | none=>rw [hg] at p; exact p.elim
       | some ob =>
        rw [hg] at p
        obtain⟨a',ha',orp⟩:=r3.addr hg
        rw [e3.at hn] at ha'; cases ha'
        cases ob with
        | lst ds =>
         dsimp only at p
         obtain⟨vs,hH,q⟩:=orp
         cases hj:ixD ds.length k with
         | none=>rw [hj] at p; exact p.elim
         | some j =>
          rw [hj] at p
          have ex:Ext X.K μ3 H3 μ3 (upd H3 a (.lst (vs.set j vy))):=Jz hH (by intro _ z; cases z) (by intro _ _ z; cases z)
          refine⟨a,vs,k,j,rfl,rfl,hH,by rw [q.length]; exact hj,?_⟩
          refine p σ _ μ3 (((e1.trans e2).trans e3).trans ex) ((R.go ((e1.trans e2).trans e3) r3).go ex ?_)
          exact r3.set (e3.at hn) hH (by intro _ z; cases z) (by intro _ _ z; cases z) ⟨_,Qn,Dens.set (((q1.mono e2).mono e3).mono ex) j (q.mono ex)⟩
        | _=>exact p.elim
      | _=>exact p.elim
     | raise _ _=>rw [hm3] at p; exact(RaP.stmt R p).go (e1.trans e2)
     | stuck=>rw [hm3] at p; exact p
    | _=>exact p.elim
   | raise _ _=>rw [hm2] at p; exact(RaP.stmt R p).go e1
   | stuck=>rw [hm2] at p; exact p
  | raise _ _=>rw [hm] at p; exact RaP.stmt R p
  | stuck=>rw [hm] at p; exact p⟩
noncomputable def Sim (K:PySem.W.Frag) (ca:Nat->Addr) (μ0:List Addr) (H0:Hp) (src:Src) (J:It):Prop :=
 ∀(i:Nat) (H:Hp) (μ:List Addr) (g:G),Ext K μ0 H0 μ H->GRep K ca μ H g->match src.at' g i with
  | some (some d)=>J.go i H∧∀ x H',J.yld i H x H'->Ext K μ H μ H'∧GRep K ca μ H' g∧Den K μ H' x d
  | some none=>J.stop i H
  | none=>True
noncomputable def upI (K:PySem.W.Frag) (ca:Nat->Addr) (Φ:XS) (m:MI):TI:=fun σ H R=>∃ σ3 g μ,Rep K ca μ σ3 g σ H∧match m σ3 g with
 | .ok src g'=>∀ J H' μ',Ext K μ H μ' H'->GRep K ca μ' H' g'->Sim K ca μ' H' src J->R J H'
 | .raise x g'=>RaP K ca Φ σ H μ x g'
 | .stuck=>False
noncomputable def PI3 (ca:Nat->Addr) (X:Cx) (tg iter:Expr) (m:MI):Prop:=∀ pn Φ,PI (xat X ca pn Φ) tg iter (upI X.K ca Φ m)
theorem QdF {tg iter:Expr} {body:List Stmt} {mi:MI} {f:MG} (hc:X.calm=true) (hi:PI3 ca X tg iter mi) (hg:PG3 ca X tg f) (hb:PSs3 ca X body m) (hs:∀ x,foldedSetIterable iter X.env x=pure x:=by intro _; rfl) (hk:X.stack=X.env::X.outer:=by rfl) (hf:X.env.frame=some X.env.locals:=by rfl) :
  PS3 ca X (.For tg iter body [] pos) (mFor mi f m) :=
 fun pn Φ=>Yk (QkS (X:=xat X ca pn Φ) (QiQ hk hf pn Φ) hc (hi pn Φ) (hg pn Φ) (hb pn Φ) hs) fun E σ H ⟨σ3,g,μ,R,p⟩=>⟨σ3,g,μ,R,by
  unfold mFor at p
  cases hm:mi σ3 g with
  | ok src g' =>
   rw [hm] at p
   dsimp only at p ⊢
   intro J H' μ' e' r' sim
   refine⟨fun i n σ1 H1=>∃ σ4 g1 μ1,Ext X.K μ' H' μ1 H1∧Rep X.K ca μ1 σ4 g1 σ1 H1∧PostS X.K ca Φ E H1 μ1 (forL src f m n i σ4 g1),⟨src.top+1,σ3,g',μ',.refl,R.go e' r',p.go e'⟩,?_⟩
   rintro i n σ1 H1 ⟨σ4,g1,μ1,e1,R1,p1⟩
   have s1:=sim i H1 μ1 g1 e1 R1.g
   cases n with
   | zero=>exact p1.elim
   | succ n =>
    unfold forL at p1
    cases ha:src.at' g1 i with
    | none=>rw [ha] at p1; exact p1.elim
    | some od =>
     rw [ha] at p1 s1
     cases od with
     | none=>exact .inl ⟨s1,p1 σ1 H1 μ1 .refl R1⟩
     | some d =>
      dsimp only at p1 s1
      obtain⟨go,yl⟩:=s1
      refine .inr ⟨go,fun σ2 H2=>∃ σ5 g2 μ2,Ext X.K μ' H' μ2 H2∧Rep X.K ca μ2 σ5 g2 σ2 H2∧PostS X.K ca Φ E H2 μ2 (forL src f m n (i+1) σ5 g2),fun σ2 H2 z=>⟨n,Nat.lt_succ_self n,z⟩,fun x H2 y=>?_⟩
      obtain⟨e2,r2,q2⟩:=yl x H2 y
      cases hf:f d σ4 with
      | none=>rw [hf] at p1; exact p1.elim
      | some σ5 =>
       rw [hf] at p1
       dsimp only at p1
       refine⟨σ4,g1,μ1,d,σ5,R1.go e2 r2,q2,hf,fun σ6 R6=>⟨σ5,g1,μ1,R6,?_⟩⟩
       cases hb:m σ5 g1 with
       | nx σ7 g7 =>
        rw [hb] at p1
        exact fun σ' H3 μ3 e3 R3=>⟨σ7,g7,μ3,(e1.trans e2).trans e3,R3,PostS.go (e2.trans e3) p1⟩
       | ct σ7 g7 =>
        rw [hb] at p1
        exact fun σ' H3 μ3 e3 R3=>⟨σ7,g7,μ3,(e1.trans e2).trans e3,R3,PostS.go (e2.trans e3) p1⟩
       | bk σ7 g7 =>
        rw [hb] at p1
        exact fun σ' H3 μ3 e3 R3=>p1 σ' H3 μ3 (e2.trans e3) R3
       | rt d7 g7 =>
        rw [hb] at p1
        exact fun v H3 μ3 e3 r3 q3=>p1 v H3 μ3 (e2.trans e3) r3 q3
       | raise _ _ _ =>
        rw [hb] at p1
        exact fun σ' H3 μ3 e3 R3=>p1 σ' H3 μ3 (e2.trans e3) R3
       | stuck=>rw [hb] at p1; exact p1
  | raise _ _=>rw [hm] at p; exact RaP.stmt R p
  | stuck=>rw [hm] at p; exact p⟩
theorem Qgf {body:List Stmt} (hc:PT3 ca X c tc) (hb:PSs3 ca X body m) (hk:X.stack=X.env::X.outer:=by rfl) (hf:X.env.frame=some X.env.locals:=by rfl):PS3 ca X (.While c body [] pos) (QbG tc m) :=
 fun pn Φ=>Yk (Qht (X:=xat X ca pn Φ) (QiQ hk hf pn Φ) (hc pn Φ) (hb pn Φ)) fun E σ H hQ=>by
  obtain⟨σ3,g,μ,R,p⟩:=hQ
  unfold QbG at p
  by_cases hh:∃ f,Zd tc m f σ3 g≠.stuck
  ·rw [dif_pos hh] at p
   generalize hh.choose=k at p
   refine⟨fun n σ1 H1=>∃ σ4 g1 μ1,Ext X.K μ H μ1 H1∧Rep X.K ca μ1 σ4 g1 σ1 H1∧PostS X.K ca Φ E H1 μ1 (Zd tc m n σ4 g1),⟨k,σ3,g,μ,.refl,R,p⟩,?_⟩
   rintro n σ1 H1 ⟨σ4,g1,μ1,e1,R1,p1⟩
   cases n with
   | zero=>exact p1.elim
   | succ n =>
    unfold Zd at p1
    refine⟨σ4,g1,μ1,R1,?_⟩
    cases ht:tc σ4 g1 with
    | ok t g2 =>
     rw [ht] at p1
     cases t with
     | true =>
      dsimp only at p1
      intro H2 μ2 e2 r2
      rw [if_pos rfl]
      refine⟨fun σ2 H3=>∃ σ5 g3 μ3,Ext X.K μ H μ3 H3∧Rep X.K ca μ3 σ5 g3 σ2 H3∧PostS X.K ca Φ E H3 μ3 (Zd tc m n σ5 g3),fun σ2 H3 z=>⟨n,Nat.lt_succ_self n,z⟩,σ4,g2,μ2,R1.go e2 r2,?_⟩
      cases hb:m σ4 g2 with
      | nx σ7 g7 =>
       rw [hb] at p1
       exact fun σ' H3 μ3 e3 R3=>⟨σ7,g7,μ3,(e1.trans e2).trans e3,R3,PostS.go (e2.trans e3) p1⟩
      | ct σ7 g7 =>
       rw [hb] at p1
       exact fun σ' H3 μ3 e3 R3=>⟨σ7,g7,μ3,(e1.trans e2).trans e3,R3,PostS.go (e2.trans e3) p1⟩
      | bk σ7 g7 =>
       rw [hb] at p1
       exact fun σ' H3 μ3 e3 R3=>p1 σ' H3 μ3 (e2.trans e3) R3
      | rt d7 g7 =>
       rw [hb] at p1
       exact fun v H3 μ3 e3 r3 q3=>p1 v H3 μ3 (e2.trans e3) r3 q3
      | raise _ _ _ =>
       rw [hb] at p1
       exact fun σ' H3 μ3 e3 R3=>p1 σ' H3 μ3 (e2.trans e3) R3
      | stuck=>rw [hb] at p1; exact p1
     | false =>
      intro H2 μ2 e2 r2
      rw [if_neg Bool.false_ne_true]
      exact p1 σ1 H2 μ2 e2 (R1.go e2 r2)
    | raise _ _=>rw [ht] at p1; exact RaP.stmt R1 p1
    | stuck=>rw [ht] at p1; exact p1
  ·rw [dif_neg hh] at p; exact p.elim
end
end L3
end
section
namespace L3
open PySem PySem.Spec PyProof.Rows L2
noncomputable def spM (K:PySem.W.Frag) (ca:Nat->Addr) (n:Nat) (F:MF):Sp:=fun vs H Q E=>vs.length=n∧∃ ds g μ,GRep K ca μ H g∧Dens K μ H vs ds∧match F ds g with
 | .ok d g'=>∀ v H' μ',Ext K μ H μ' H'->GRep K ca μ' H' g'->Den K μ' H' v d->Q v H'
 | .raise x g'=>∀ H' μ',Ext K μ H μ' H'->GRep K ca μ' H' g'->E (.int x.1 0) x.2 H'
 | .stuck=>False
theorem Qgg {K:PySem.W.Frag} {ca:Nat->Addr} {μ:List Addr} {H:Hp} {g:G} {vs:List V} {ds:List D} (N:List Str) (r:GRep K ca μ H g) (q:Dens K μ H vs ds):Rep K ca μ (ds.map some++List.replicate (N.length - vs.length) none) g (L2.start N vs) H:=by
 unfold L2.start
 refine⟨r,?_,fun i d h=>?_⟩
 ·rw [List.length_append,List.length_append,List.length_map,List.length_map,q.length,List.length_replicate,List.length_replicate]
 ·by_cases hi:i<ds.length
  ·rw [List.getElem?_append_left (by simpa using hi),List.getElem?_map] at h
   cases hd:ds[i]? with
   | none=>rw [hd] at h; cases h
   | some d' =>
    rw [hd] at h; cases h
    obtain⟨v,h1,h2⟩:=q.get hd
    refine⟨v,?_,h2⟩
    rw [List.getElem?_append_left (by simpa [q.length] using hi),List.getElem?_map,h1]; rfl
  ·rw [List.getElem?_append_right (by simpa using hi),List.getElem?_replicate] at h
   split at h <;> cases h
structure FnH (P:Program) (w:World) (K:PySem.W.Frag) (mg:Str->Option Value) (base:Heap) (ca:Nat->Addr) (x:Str) (k n:Nat) (F:MF):Prop where
 ex:∃(f:Addr) (fd:FuncData) (ps:List Str),FnOk P w K mg base (CXW P w ca) k f fd ps (spM K ca n F)∧mg x=some (.ref f)∧PySem.W.keepIn K (.ref f)=true∧Binds K fd ps []
 st:∀ ds g,ds.length≠n->F ds g=.stuck
structure MtH (P:Program) (w:World) (K:PySem.W.Frag) (mg:Str->Option Value) (base:Heap) (ca:Nat->Addr) (c:Nat) (x:Str) (k n:Nat) (F:MF):Prop where
 ex:∃(f:Addr) (fd:FuncData) (ps:List Str),FnOk P w K mg base (CXW P w ca) k f fd ps (spM K ca n F)∧Meth K (ca c) x f∧Cls K (ca c)∧Binds K fd ps []
 st:∀ ds g,ds.length≠n->F ds g=.stuck
structure MkH (P:Program) (w:World) (K:PySem.W.Frag) (mg:Str->Option Value) (base:Heap) (ca:Nat->Addr) (c:Nat) (x:Str) (k n:Nat) (F:MF):Prop where
 ex:∃(f:Addr) (fd:FuncData) (ps:List Str),FnOk P w K mg base (CXW P w ca) k f fd ps (spM K ca n F)∧Mk K (ca c) f∧mg x=some (.ref (ca c))∧Binds K fd ps []
 st:∀ ds g,ds.length≠n->F ds g=.stuck
theorem QD (k n:Nat) (m:MS):∀ ds g,ds.length≠k->mDef k n m ds g=.stuck:=fun ds g h=>by unfold mDef; rw [if_neg h]
section
variable {P:Program} {w:World} {K:PySem.W.Frag} {mg:Str->Option Value} {base:Heap} {ca:Nat->Addr}
theorem Qgh {N:List Str} {qual:Str} {scope:Scope} {f:Addr} {cd:Value} {A:Around} {outer:List Env} {s:Shared} {H:Hp} {E:XK} {body:List Stmt} {t:TS}
  (h:PSs (xat (cxOf (CXW P w ca) P w K mg base N qual scope f cd A outer s H E) ca [] (fun x _ H'=>E (.int x.1 0) x.2 H')) body t):PSs (cxOf (CXW P w ca) P w K mg base N qual scope f cd A outer s H E) body t:=fun pins s1 σ H1 D I q =>
 wpAny_mono (h pins s1 σ H1 D (Inv.wish I _) q) (fun _ _ z=>SP.unwish (X:=cxOf (CXW P w ca) P w K mg base N qual scope f cd A outer s H E) z) fun _ _ z=>QhF z
theorem ZQ {x qual:Str} {st:Stmt} {f:Addr} {fd:FuncData} {N ps:List Str} {k n j:Nat} {m:MS} (F:Fun K x qual st f fd) (S:FnScope N ps (Qd st)) (hj:ps.length=j) (hn:N.length - ps.length=n)
  (h:∀(cdv:Value) (A:Around) (outer:List Env) (s:Shared) (H:Hp) (E:XK),Room k (A.deeper (envOfC qual (Qd st) s.heap.objs.size f cdv)) ->
   PSs3 ca (cxOf (CXW P w ca) P w K mg base N qual (Qd st) f cdv A outer s H E) (Qt st) m):FnOk P w K mg base (CXW P w ca) (k+1) f fd ps (spM K ca j (mDef j n m)):=by
 subst hj
 obtain⟨oc,od,kV,doc,pm,an,cdv,ct,osl,rfl,lk,hcd⟩:=F.ex
 refine Qms lk hcd S (fun vs H Q E q=>q.1) fun A outer s H vs Q E hr hsp=>?_
 obtain⟨hl,ds,g,μ,r,q,p⟩:=hsp
 refine⟨_,Qgh (h cdv A outer s H E hr [] _),ds.map some++List.replicate n none,g,μ,?_,?_⟩
 ·have z:=Qgg N r q
  rw [hl,hn] at z
  exact z
 ·unfold mDef at p
  rw [if_pos (by rw [← q.length,hl])] at p
  cases hm:m (ds.map some++List.replicate n none) g with
  | nx σ' g'=>rw [hm] at p; exact fun σ'' H' μ' e' R'=>p .non H' μ' e' R'.g .non
  | rt d g'=>rw [hm] at p; exact p
  | bk _ _=>rw [hm] at p; exact p.elim
  | ct _ _=>rw [hm] at p; exact p.elim
  | raise _ _ _=>rw [hm] at p; exact fun σ'' H' μ' e' R'=>p H' μ' e' R'.g
  | stuck=>rw [hm] at p; exact p.elim
noncomputable def EK (Φ:XS) (σ:L2.St):XK:=fun c l H'=>∀ x:Xc,c=.int x.1 0->l=x.2->Φ x σ H'
theorem Qev {F:MF} {n:Nat} {Φ:XS} {σ:L2.St} {Q:VK} {H:Hp} {μ:List Addr} {vs:List V} {ds:List D} {g:G} (st:∀ ds g,ds.length≠n->F ds g=.stuck) (r:GRep K ca μ H g) (q:Dens K μ H vs ds) (p:Post K ca Φ σ Q H μ (F ds g)):spM K ca n F vs H Q (EK Φ σ):=by
 have hl:vs.length=n:=by
  rw [q.length]
  apply Decidable.byContradiction
  intro h
  rw [st ds g h] at p
  exact p
 refine⟨hl,ds,g,μ,r,q,?_⟩
 cases hF:F ds g with
 | ok d g'=>rw [hF] at p; exact p
 | raise x g' =>
  rw [hF] at p
  intro H' μ' e r' y e1 e2
  have:x=y:=by
   obtain⟨a,b⟩:=x
   obtain⟨c,d⟩:=y
   injection e1 with e1
   have e1:(a:Int)=(c:Int):=e1
   have e3:a=c:=by omega
   rw [e3,show b=d from e2]
  rw [← this]
  exact p H' μ' e r'
 | stuck=>rw [hF] at p; exact p
end
section
variable {X:Cx} {ca:Nat->Addr} {e o:Expr} {es:List Expr} {me mo:ME} {mr:MA} {p pos apos:Pos} {k n:Nat} {F:MF} {pn:List (Addr×Obj)} {Φ:XS}
theorem Qgi {f:Addr} {fd:FuncData} {ps:List Str} {pins:List (Addr×Obj)} {σ:L2.St} {H:Hp} {s:Shared} {Q:VK} {us:List Value} {vs:List V} (G:FnOk X.prog X.w X.K X.mg X.base (CXW X.prog X.w ca) k f fd ps (spM X.K ca n F)) (hr:Room k X.A) (hb:Binds X.K fd ps [])
  (I:Inv (xat X ca pn Φ) pins σ H s) (r:Vals vs us) (h:spM X.K ca n F vs H Q (EK Φ σ)):wpAny (model X.prog X.w) X.A (call (.ref f) us) (EP (xat X ca pn Φ) pins σ Q) (xat X ca pn Φ).xe s:=by
 have hl:(us++[]).length=ps.length:=by rw [List.append_nil,← r.length]; exact G.len _ _ _ _ h
 have b:=hb s us I.kIn hl
 rw [List.append_nil] at b
 refine wpAny_call (codeAny_mono (G.run X.A X.stack s H ⟨us,[]⟩ us vs Q (EK Φ σ) hr I.env0 b r h) fun res s' hq=>?_)
 cases res with
 | error z=>exact Qgd I hq
 | ok fl =>
  cases fl with
  | ret u=>exact I.after hq
  | _=>exact False.elim hq
theorem QH {x:Str} (h:FnH X.prog X.w X.K X.mg X.base ca x k n F) (hr:Room k X.A) (ha:PA3 ca X (e::es) mr) (hg:Gl X x:=by rfl) (hdb:(x == ("__debug__" : Str))=false:=by decide)
  (he:starEach (e::es) X.env=(false,eval e X.env)::starEach es X.env:=by rfl) (hpl:(backTo pos (starEach es X.env)).any (·.1)=false:=by rfl):PE3 ca X (.Call (.Name x p) (e::es) [] pos) (QA F mr):=by
 obtain⟨f,fd,ps,F1,m1,k1,b1⟩:=h.ex
 intro pn Φ pins s σ H Q I ⟨σ3,g,μ,R,q⟩
 refine wpAny_Call_Name_kw (QaR I hg m1 ?_ hdb)
 have z:upA X.K ca Φ mr σ H fun vs H1=>spM X.K ca n F vs H1 Q (EK Φ σ):=Ji (QcS R q) fun xs H1 ⟨ds,g1,μ1,e1,R1,q1,p1⟩=>Qev h.st R1.g q1 p1
 refine PySem.W.callWith_K (h₀:=X.base) I.ok.mod.kin k1 (thn (ha pn Φ pos pins s σ H _ I z) fun us s1 ⟨vs,H1,I1,r,q1⟩=>⟨I1.kIn,?_⟩) he hpl
 exact Qgi F1 hr b1 I1 r q1
theorem Qgj {K:PySem.W.Frag} {c:Nat} {m:Str} {σ:L2.St} {H:Hp} {Q:VK} {α:Type} {kk:Nat->G->Res α} {R:Res α->Hp->List Addr->Prop} {d:D} {g:G} {μ:List Addr} {v:V} (r:GRep K ca μ H g) (hst:¬ R .stuck H μ)
  (p:R (match d with
   | .ref i=>(match g[i]? with
    | some (.ins c' fs)=>if c'=c∧fs.lookup m=none then kk i g else .stuck
    | _=>.stuck)
   | _=>.stuck) H μ) (q:Den K μ H v d):∃ a dx fv i,d=.ref i∧v=.ref a∧μ[i]?=some a∧H a=some (.ins (ca c) dx fv)∧fv.lookup m=none∧R (kk i g) H μ:=by
 cases q with
 | @ref i a hn =>
  dsimp only at p
  cases hg:g[i]? with
  | none=>rw [hg] at p; exact(hst p).elim
  | some ob =>
   rw [hg] at p
   obtain⟨a',ha',orp⟩:=r.addr hg
   rw [hn] at ha'; cases ha'
   cases ob with
   | ins c' fs =>
    dsimp only at p
    obtain⟨dx,fv,hH,fr⟩:=orp
    by_cases hc:c'=c∧fs.lookup m=none
    ·rw [if_pos hc] at p
     obtain⟨rfl,hl⟩:=hc
     exact⟨a,dx,fv,i,rfl,rfl,hn,hH,fr.no hl,p⟩
    ·rw [if_neg hc] at p; exact(hst p).elim
   | _=>exact(hst p).elim
 | _=>exact(hst p).elim
theorem QiR {c:Nat} {m:Str} {pl:Sem Bool} (h:MtH X.prog X.w X.K X.mg X.base ca c m k n F) (hr:Room k X.A) (ho:PE3 ca X o mo) (ha:PA3 ca X (e::es) mr)
  (hst:starEach (e::es) X.env=(false,eval e X.env)::starEach es X.env:=by rfl) (hpl:(backTo pos (starEach es X.env)).any (·.1)=false:=by rfl)
  (ht:eval (.Call (.Attribute o m apos) (e::es) [] pos) X.env=(do
   let ov ← eval o X.env
   standAt apos.atName
   let (f,first) ← holding [ov] (getMethod ov m pl)
   callWith pos f first (backTo pos (starEach (e::es) X.env)) (backToKw pos (keywordEach [] X.env))):=by rfl):PE3 ca X (.Call (.Attribute o m apos) (e::es) [] pos) (Z8 c m F mo mr):=by
 obtain⟨f,fd,ps,F1,m1,k1,b1⟩:=h.ex
 intro pn Φ pins s σ H Q I ⟨σ3,g,μ,R,q⟩
 refine PySem.W.methodCall_KW (pl:=pl) (thn (ho pn Φ pins s σ H _ I (Y1 R q)) fun u s1 ⟨x,H1,I1,rx,d,g1,μ1,e1,R1,q1,p1⟩=>?_) ht
 obtain⟨a,dx,fv,i,rfl,rfl,hn,hH,hl,p2⟩:=Qgj (Q:=Q) (σ:=σ) (R:=fun r H μ=>Post X.K ca Φ σ Q H μ r) (kk:=fun i g=>(mr σ3 g).bind fun xs g2=>F (.ref i::xs) g2) R1.g (fun z=>z) p1 q1
 obtain rfl:u=Value.ref a:=rx
 refine QbD I1 hH k1 m1 hl ?_
 have z:upA X.K ca Φ mr σ H1 fun vs H2=>spM X.K ca n F (.ref a::vs) H2 Q (EK Φ σ):=Ji (QcS R1 p2) fun xs H2 ⟨ds,g2,μ2,e2,R2,q2,p3⟩=>Qev h.st R2.g (.cons (.ref (e2.at hn)) q2) p3
 refine PySem.W.callWith_K (first:=[.ref a]) (h₀:=X.base) I.ok.mod.kin m1.kp (thn (ha pn Φ pos pins s1 σ H1 _ I1 z) fun us s2 ⟨vs,H2,I2,r,q2⟩=>⟨I2.kIn,?_⟩) hst hpl
 exact Qgi (us:=.ref a::us) (vs:=.ref a::vs) F1 hr b1 I2 (.cons rfl r) q2
theorem Y5 {c:Nat} {m:Str} {pl:Sem Bool} (h:MtH X.prog X.w X.K X.mg X.base ca c m k n F) (hr:Room k X.A) (ho:PE3 ca X o mo)
  (ht:eval (.Call (.Attribute o m apos) [] [] pos) X.env=(do
   let ov ← eval o X.env
   standAt apos.atName
   let (f,first) ← holding [ov] (getMethod ov m pl)
   callWith pos f first (backTo pos (starEach [] X.env)) (backToKw pos (keywordEach [] X.env))):=by rfl):PE3 ca X (.Call (.Attribute o m apos) [] [] pos) (Z8 c m F mo mNil):=by
 obtain⟨f,fd,ps,F1,m1,k1,b1⟩:=h.ex
 intro pn Φ pins s σ H Q I ⟨σ3,g,μ,R,q⟩
 refine PySem.W.methodCall_KW (pl:=pl) (thn (ho pn Φ pins s σ H _ I (Y1 R q)) fun u s1 ⟨x,H1,I1,rx,d,g1,μ1,e1,R1,q1,p1⟩=>?_) ht
 obtain⟨a,dx,fv,i,rfl,rfl,hn,hH,hl,p2⟩:=Qgj (Q:=Q) (σ:=σ) (R:=fun r H μ=>Post X.K ca Φ σ Q H μ r) (kk:=fun i g=>(mNil σ3 g).bind fun xs g2=>F (.ref i::xs) g2) R1.g (fun z=>z) p1 q1
 obtain rfl:u=Value.ref a:=rx
 refine QbD I1 hH k1 m1 hl ?_
 exact PySem.W.callWith_K0 (first:=[.ref a]) I1.kIn m1.kp (Qgi (us:=[.ref a]) (vs:=[.ref a]) F1 hr b1 I1 (.cons rfl .nil) (Qev h.st R1.g (.cons (.ref hn) .nil) p2))
theorem QiS {c:Nat} {x:Str} (h:MkH X.prog X.w X.K X.mg X.base ca c x k n F) (hr:Room (k+1) X.A) (ha:PA3 ca X (e::es) mr) (hg:Gl X x:=by rfl) (hdb:(x == ("__debug__" : Str))=false:=by decide)
  (he:starEach (e::es) X.env=(false,eval e X.env)::starEach es X.env:=by rfl) (hpl:(backTo pos (starEach es X.env)).any (·.1)=false:=by rfl):PE3 ca X (.Call (.Name x p) (e::es) [] pos) (QcP c F mr):=by
 obtain⟨f,fd,ps,F1,m1,k1,b1⟩:=h.ex
 intro pn Φ pins s σ H Q I ⟨σ3,g,μ,R,q⟩
 refine wpAny_Call_Name_kw (QaR I hg k1 ?_ hdb)
 have z:upA X.K ca Φ mr σ H fun vs H1=>∀ y dy,H1 y=none->H1 dy=none->dy≠y->spM X.K ca n F (.ref y::vs) (upd (upd H1 dy (.own y)) y (.ins (ca c) dy [])) (fun v H2=>v=.non∧Q (.ref y) H2) (EK Φ σ) :=
  Ji (QcS R q) fun xs H1 ⟨ds,g1,μ1,e1,R1,q1,p1⟩ y dy hy hdy ne=>by
   have hy2:(upd H1 dy (.own y)) y=none:=by rw [Qq (Ne.symm ne)]; exact hy
   have ex1:Ext X.K μ1 H1 μ1 (upd H1 dy (.own y)):=Q8 hdy
   have g2:=R1.g.new (o:=.own y) hdy
   have ex2:Ext X.K μ1 (upd H1 dy (.own y)) (μ1++[y]) (upd (upd H1 dy (.own y)) y (.ins (ca c) dy [])):=QE hy2
   have g3:GRep X.K ca (μ1++[y]) (upd (upd H1 dy (.own y)) y (.ins (ca c) dy [])) (g1++[.ins c []]):=g2.push hy2 ⟨dy,[],Qn,.nil⟩
   have ey:(μ1++[y])[g1.length]?=some y:=by rw [← R1.g.len]; simp
   refine Qev (Φ:=Φ) (σ:=σ) h.st g3 (.cons (.ref ey) ((q1.mono ex1).mono ex2)) ?_
   cases hF:F (D.ref g1.length::ds) (g1++[.ins c []]) with
   | stuck=>rw [hF] at p1; exact p1.elim
   | raise _ _=>rw [hF] at p1; exact RaP.go (ex1.trans ex2) p1
   | ok d g4 =>
    rw [hF,Res.bind_ok] at p1
    intro v H' μ' e' r' q'
    cases q' with
    | non=>exact⟨rfl,p1 _ H' μ' ((ex1.trans ex2).trans e') r' (.ref (e'.at ey))⟩
    | _=>exact p1.elim
 refine PySem.W.callWith_K (h₀:=X.base) I.ok.mod.kin m1.kp (thn (ha pn Φ pos pins s σ H _ I z) fun us s1 ⟨vs,H1,I1,r,q1⟩=>⟨I1.kIn,?_⟩) he hpl
 have hq:=q1 (s1.heap.objs.size+1) s1.heap.objs.size (I1.hok.fresh (Nat.le_succ _)) (I1.hok.fresh (Nat.le_refl _)) (Nat.ne_of_lt (Nat.lt_succ_self _))
 have I2:=Inv.made (C:=ca c) I1
 have r2:Vals (V.ref (s1.heap.objs.size+1)::vs) (Value.ref (s1.heap.objs.size+1)::us):=.cons rfl r
 have hl:(Value.ref (s1.heap.objs.size+1)::us++[]).length=ps.length:=by
  have w:=r2.length
  rw [F1.len _ _ _ _ hq] at w
  rw [List.append_nil]
  exact w.symm
 have b2:=b1 _ (Value.ref (s1.heap.objs.size+1)::us) I2.kIn hl
 rw [List.append_nil] at b2
 refine wpAny_call (Qhz (f:=f) I1.kIn m1.makes m1.init (beq_iff_eq.mp m1.fn) (codeAny_mono (F1.run _ X.stack _ _ ⟨Value.ref (s1.heap.objs.size+1)::us,[]⟩ (Value.ref (s1.heap.objs.size+1)::us) _ _ (EK Φ σ) (hr.make (ca c) us [])
  (I2.env0.make (ca c) us []) b2 r2 hq) fun res s' hq'=>?_))
 cases res with
 | error z=>exact Qgd I2 hq'
 | ok fl =>
  cases fl with
  | ret u =>
   obtain⟨v,H',I3,rv,ev,q3⟩:=I2.after hq'
   subst ev
   exact⟨rv,⟨V.ref (s1.heap.objs.size+1),H',I3,rfl,q3⟩⟩
  | _=>exact False.elim hq'
end
section
variable {X:Cx} {ca:Nat->Addr} {tg e:Expr} {me:ME} {mr:MA} {p pos:Pos}
theorem Qb8 {X:Cx} {tg iter:Expr} {t t':TI} (h:PI X tg iter t) (i:∀ σ H R,t' σ H R->t σ H R):PI X tg iter t':=fun pins s σ H R I q=>h pins s σ H R I (i σ H R q)
theorem Qgk (K:PySem.W.Frag) (μ:List Addr) (H:Hp) (lo:Int) (n:Nat):Sim K ca μ H (ZZ lo n) (Itr lo n):=by
 intro i H1 μ1 g1 e r
 unfold ZZ
 dsimp only
 by_cases h:i<n
 ·rw [if_pos h]
  exact⟨h,fun x H' y=>by obtain⟨rfl,rfl⟩:=y; exact⟨.refl,r,.int _⟩⟩
 ·rw [if_neg h]
  exact Nat.le_of_not_lt h
theorem Qjz {K:PySem.W.Frag} {μ:List Addr} {H:Hp} {a:Addr} {vs:List V} {ds:List D} (h:SqT K H a vs) (q:Dens K μ H vs ds):Sim K ca μ H ⟨fun _ i=>some ds[i]?,ds.length⟩ (Itt K a):=by
 intro i H1 μ1 g1 e r
 dsimp only
 cases hd:ds[i]? with
 | none =>
  refine⟨vs,e.tup _ _ h,?_⟩
  rw [q.length]
  exact List.getElem?_eq_none_iff.mp hd
 | some d =>
  obtain⟨v,h1,h2⟩:=q.get hd
  refine⟨⟨vs,v,e.tup _ _ h,h1⟩,fun x H' y=>?_⟩
  obtain⟨rfl,y⟩:=y
  have:=y vs (e.tup _ _ h)
  rw [h1] at this; cases this
  exact⟨.refl,r,h2.mono e⟩
theorem QjA {K:PySem.W.Frag} {μ:List Addr} {H:Hp} {a:Addr} {n t:Nat} (hn:μ[n]?=some a):Sim K ca μ H ⟨fun g i=>(match g[n]? with | some (.lst es)=>some es[i]? | _=>none),t⟩ (Itl K a):=by
 intro i H1 μ1 g1 e r
 dsimp only
 cases hg:g1[n]? with
 | none=>trivial
 | some o =>
  cases o with
  | lst ds =>
   dsimp only
   obtain⟨a',ha',vs,hH,q⟩:=r.addr hg
   rw [e.at hn] at ha'; cases ha'
   cases hd:ds[i]? with
   | none =>
    refine⟨vs,.of hH,?_⟩
    rw [q.length]
    exact List.getElem?_eq_none_iff.mp hd
   | some d =>
    obtain⟨v,h1,h2⟩:=q.get hd
    refine⟨⟨vs,v,.of hH,h1⟩,fun x H' y=>?_⟩
    obtain⟨rfl,y⟩:=y
    have:=y vs (.of hH)
    rw [h1] at this; cases this
    exact⟨.refl,r,h2⟩
  | _=>trivial
theorem Qlm {K:PySem.W.Frag} {μ:List Addr} {H:Hp} {a:Addr} {vs:List V} {ds:List D} (h:SqF K H a vs) (q:Dens K μ H vs ds):Sim K ca μ H ⟨fun _ i=>some ds[i]?,ds.length⟩ (Itl K a):=by
 intro i H1 μ1 g1 e r
 dsimp only
 have sq:SqL K H1 a vs:=(e.fl _ _ h).sq
 cases hd:ds[i]? with
 | none =>
  refine⟨vs,sq,?_⟩
  rw [q.length]
  exact List.getElem?_eq_none_iff.mp hd
 | some d =>
  obtain⟨v,h1,h2⟩:=q.get hd
  refine⟨⟨vs,v,sq,h1⟩,fun x H' y=>?_⟩
  obtain⟨rfl,y⟩:=y
  have:=y vs sq
  rw [h1] at this; cases this
  exact⟨.refl,r,h2.mono e⟩
theorem Qln {l:Expr} {tl:TE} (hl:PE X l tl):PI X tg l (fun σ H R=>tl σ H fun x H1=>(∃ a,x=.ref a∧(∃ xs,SqL X.K H1 a xs)∧R (Itl X.K a) H1)∨∃ a,x=.ref a∧(∃ xs,SqT X.K H1 a xs)∧R (Itt X.K a) H1):=by
 intro pins s σ H R I h
 refine thn (hl pins s σ H _ I h) fun v s1 ⟨x,H1,I1,r1,q1⟩=>?_
 rcases q1 with⟨a,e,⟨xs,hq⟩,q⟩ | ⟨a,e,⟨xs,hq⟩,q⟩
 ·subst e
  cases r1
  obtain⟨its,rv,p,hz⟩:=I1.list hq
  refine wpAny_pyIter_list p.isList ?_
  refine⟨s1.heap.objs.size,[s1.heap.objs.size],_,_,H1,rfl,I1.kept (t':=s1.toks) fun b o e=>Heap.get?_push_of_some _ e,QfS a _,⟨_,Heap.get?_push_size _ rfl,rfl,rfl⟩,fun b hb=>?_,q⟩
  have e:b=s1.heap.objs.size:=by simpa using hb
  subst e
  exact I1.fpOk (Nat.le_refl _) (I1.hok.fresh (Nat.le_refl _))
 ·subst e
  cases r1
  obtain⟨its,rv,p,hz⟩:=I1.tuple hq
  refine wpAny_pyIter_tuple (show s1.heap.IsTuple a its.toArray from p) ?_
  refine⟨s1.heap.objs.size,[s1.heap.objs.size],_,_,H1,rfl,I1.kept (t':=s1.toks) fun b o e=>Heap.get?_push_of_some _ e,QeZ a _,⟨_,Heap.get?_push_size _ rfl,rfl,rfl⟩,fun b hb=>?_,q⟩
  have e:b=s1.heap.objs.size:=by simpa using hb
  subst e
  exact I1.fpOk (Nat.le_refl _) (I1.hok.fresh (Nat.le_refl _))
theorem JC (he:PE3 ca X e me):PI3 ca X tg e (ZN me) :=
 fun pn Φ=>Qb8 (Qln (X:=xat X ca pn Φ) (he pn Φ)) fun σ H R hQ=>by
  obtain⟨σ3,g,μ,Rp,p⟩:=hQ
  unfold ZN at p
  refine⟨σ3,g,μ,Rp,?_⟩
  cases hm:me σ3 g with
  | raise _ _=>rw [hm] at p; exact p
  | stuck=>rw [hm] at p; exact p.elim
  | ok d g1 =>
   rw [hm,Res.bind_ok] at p
   intro v H1 μ1 e1 r1 q1
   unfold QaY at p
   cases q1 with
   | @tup a vs ds ht hs =>
    exact .inr ⟨a,rfl,⟨vs,ht⟩,p _ H1 μ1 e1 r1 (Qjz ht hs)⟩
   | @fl a vs ds ht hs=>exact .inl ⟨a,rfl,⟨vs,ht.sq⟩,p _ H1 μ1 e1 r1 (Qlm ht hs)⟩
   | @ref n a hn =>
    dsimp only at p
    cases hg:g1[n]? with
    | none=>rw [hg] at p; exact p.elim
    | some o =>
     rw [hg] at p
     obtain⟨a',ha',orp⟩:=r1.addr hg
     rw [hn] at ha'; cases ha'
     cases o with
     | lst ds=>obtain⟨vs,hH,q⟩:=orp; exact .inl ⟨a,rfl,⟨vs,.of hH⟩,p _ H1 μ1 e1 r1 (QjA hn)⟩
     | _=>exact p.elim
   | _=>exact p.elim
theorem QaH (hm:X.mg "range" = none) (he:PE3 ca X e me) (hg:Gl X "range":=by rfl) (hs:starEach [e] X.env=[(false,eval e X.env)]:=by rfl):PI3 ca X tg (.Call (.Name "range" p) [e] [] pos) (Zm me) :=
 fun pn Φ=>Qb8 (QfT (X:=xat X ca pn Φ) hg hm (YY he Qk hs pn Φ) hs) fun σ H R hQ=>by
  obtain⟨σ3,g,μ,Rp,p⟩:=hQ
  refine⟨σ3,g,μ,Rp,?_⟩
  unfold Zm at p
  unfold Qa mNil
  cases hm:me σ3 g with
  | raise _ _=>rw [hm] at p; exact p
  | stuck=>rw [hm] at p; exact p.elim
  | ok d g1 =>
   rw [hm,Res.bind_ok] at p
   rw [Res.bind_ok,Res.bind_ok]
   intro vs H1 μ1 e1 r1 q1
   cases q1 with
   | cons h1 h2 =>
    cases h2
    cases h1 with
    | int j =>
     dsimp only at p
     by_cases hj:inR j
     ·rw [if_pos hj] at p
      exact⟨j,rfl,hj.1,hj.2,p _ H1 μ1 e1 r1 (Qgk X.K μ1 H1 0 j.toNat)⟩
     ·rw [if_neg hj] at p; exact p.elim
    | _=>exact p.elim
end
end L3
end
section
namespace L3
open PySem PySem.Spec PyProof.Rows L2
noncomputable def blk (X:Cx) (scope:Scope) (cl:List (Str×Addr)) (C:Addr) (Nb:List Str) (s3:Shared) (H3:Hp) (ex:List Addr):Cx :=
 { X with env:=compEnvC scope cl C X.env,N:=Nb,s₀:=s3,H₀:=H3,outer:=X.stack,stack:=X.stack,ex:=ex,fn:=fun _=>false,pn:=[],xe:=fun _ _=>False }
structure BScope (X:Cx) (scope:Scope) (Nb:List Str) (no:Nat) (cap:List Nat):Prop where
 kind:scope.kind=.function
 cell:∀ y∈scope.names,y.2≠.cell
 loc:∀ y∈scope.names,y.2=.local->scope.names.lookup y.1=some .local
 free:∀ y∈scope.names,y.2=.free->X.env.kindOf y.1=some .cell∨X.env.kindOf y.1=some .free
 len:Nb.length=no+cap.length
 cap:∀(j i:Nat),cap[j]?=some i->∃ x,Nb[no+j]?=some x∧X.N[i]?=some x∧scope.names.lookup x=some .free∧Vis X.env.scope x∧X.env.kindOf x≠some .local
noncomputable def clOf (cells:List (Str×Addr)):List (Str×NameKind)->List (Str×Addr)->Option (List (Str×Addr))
 | [],cs=>some cs
 | (n,k)::r,cs=>if (k == .free)=true then (match cells.lookup n with
  | some a=>clOf cells r ((n,a)::cs)
  | none=>none) else clOf cells r cs
theorem Qad {env:Env}:∀(names:List (Str×NameKind)) (cs cl:List (Str×Addr)),clOf env.cells names cs=some cl ->
  (forIn names cs fun(x:Str×NameKind) (r:List (Str×Addr))=>(match x with
   | (name,kind)=>if (kind == .free)=true then (do let a ← cellOf env name; pure (ForInStep.yield ((name,a)::r))) else pure (ForInStep.yield r):Sem (ForInStep (List (Str×Addr)))))=(pure cl:Sem (List (Str×Addr)))
 | [],cs,cl,h=>by cases h; rfl
 | (n,k)::r,cs,cl,h=>by
  unfold clOf at h
  rw [List.forIn_cons]
  by_cases hk:(k == .free)=true
  ·rw [if_pos hk] at h
   cases hl:env.cells.lookup n with
   | none=>rw [hl] at h; cases h
   | some a =>
    rw [hl] at h
    dsimp only at h ⊢
    rw [if_pos hk]
    unfold cellOf
    rw [hl]
    exact Qad r _ cl h
  ·rw [if_neg hk] at h
   dsimp only
   rw [if_neg hk]
   exact Qad r _ cl h
theorem Qb9 {scope:Scope} {env:Env} {cl:List (Str×Addr)} (h:clOf env.cells scope.names []=some cl):closureFor scope env=pure cl:=by
 have q:=Qad (env:=env) scope.names [] cl h
 unfold closureFor
 exact congrArg (fun t=>t >>= fun r=>(pure r:Sem _)) q
theorem Qa2 {cells:List (Str×Addr)}:∀(names:List (Str×NameKind)) (cs:List (Str×Addr)),(∀ y∈names,y.2=.free->∃ c,cells.lookup y.1=some c)->∃ cl,clOf cells names cs=some cl
 | [],cs,_=>⟨cs,rfl⟩
 | (n,k)::r,cs,h=>by
  unfold clOf
  by_cases hk:(k == .free)=true
  ·rw [if_pos hk]
   obtain⟨c,e⟩:=h (n,k) List.mem_cons_self (beq_iff_eq.mp hk)
   rw [show cells.lookup n=some c from e]
   exact Qa2 r _ fun y hy=>h y (List.mem_cons_of_mem _ hy)
  ·rw [if_neg hk]
   exact Qa2 r _ fun y hy=>h y (List.mem_cons_of_mem _ hy)
theorem Yw {cells:List (Str×Addr)}:∀(names:List (Str×NameKind)) (cs cl:List (Str×Addr)),clOf cells names cs=some cl->(∀ x c,cs.lookup x=some c->cells.lookup x=some c)->∀ x c,cl.lookup x=some c->cells.lookup x=some c
 | [],cs,cl,h,hc=>by cases h; exact hc
 | (n,k)::r,cs,cl,h,hc=>by
  unfold clOf at h
  by_cases hk:(k == .free)=true
  ·rw [if_pos hk] at h
   cases hl:cells.lookup n with
   | none=>rw [hl] at h; cases h
   | some a =>
    rw [hl] at h
    refine Yw r _ cl h fun x c e=>?_
    by_cases z:x=n
    ·subst z
     simp only [List.lookup,beq_self_eq_true] at e
     cases e
     exact hl
    ·have zb:(x == n)=false:=beq_eq_false_iff_ne.mpr z
     simp only [List.lookup,zb] at e
     exact hc x c e
  ·rw [if_neg hk] at h
   exact Yw r _ cl h hc
theorem QaI {cells:List (Str×Addr)}:∀(names:List (Str×NameKind)) (cs cl:List (Str×Addr)),clOf cells names cs=some cl->∀ x,(x∈names.filterMap fun y=>if (y.2 == .free)=true then some y.1 else none)∨(∃ c,cs.lookup x=some c)->∃ c,cl.lookup x=some c
 | [],cs,cl,h,x,hx=>by
  cases h
  rcases hx with hx | hx
  ·simp at hx
  ·exact hx
 | (n,k)::r,cs,cl,h,x,hx=>by
  unfold clOf at h
  by_cases hk:(k == .free)=true
  ·rw [if_pos hk] at h
   cases hl:cells.lookup n with
   | none=>rw [hl] at h; cases h
   | some a =>
    rw [hl] at h
    refine QaI r _ cl h x ?_
    by_cases z:x=n
    ·subst z
     exact .inr ⟨a,by simp [List.lookup]⟩
    ·have zb:(x == n)=false:=beq_eq_false_iff_ne.mpr z
     rcases hx with hx | ⟨c,hx⟩
     ·rw [List.filterMap_cons] at hx
      simp only [hk,if_true] at hx
      rcases List.mem_cons.mp hx with e | e
      ·exact absurd e z
      ·exact .inl e
     ·exact .inr ⟨c,by simp only [List.lookup,zb]; exact hx⟩
  ·rw [if_neg hk] at h
   refine QaI r _ cl h x ?_
   rcases hx with hx | hx
   ·rw [List.filterMap_cons] at hx
    simp only [hk] at hx
    exact .inl (by simpa using hx)
   ·exact .inr hx
theorem Qa3 {names:List (Str×NameKind)} {x:Str} (h:names.lookup x=some .free):x∈names.filterMap fun y=>if (y.2 == .free)=true then some y.1 else none :=
 List.mem_filterMap.mpr ⟨(x,.free),PySem.mem_of_lookup h,by simp⟩
theorem Y6 {env:Env}:∀ {names:List (Str×NameKind)} {x:Str} {k:NameKind},(∀ y∈names,y.2≠.cell) ->
  (names.map fun(n,k)=>if (k == NameKind.free && env.scope.kind == .function && env.kindOf n == some .cell) then (n,NameKind.cell) else (n,k)).lookup x=some k->(k=.cell∨k=.free)->names.lookup x=some .free
 | [],_,_,_,h,_=>by cases h
 | (n,k0)::r,x,k,hn,h,hk=>by
  have ih:=@Y6 env r x k fun y hy=>hn y (List.mem_cons_of_mem _ hy)
  rw [List.map_cons] at h
  by_cases hc:(k0 == NameKind.free && env.scope.kind == .function && env.kindOf n == some .cell)=true
  ·have k0f:k0=.free:=by
    simp only [Bool.and_eq_true] at hc
    exact beq_iff_eq.mp hc.1.1
   dsimp only at h
   rw [if_pos hc] at h
   cases hx:x == n with
   | true=>simp only [List.lookup,hx]; rw [k0f]
   | false=>simp only [List.lookup,hx] at h ⊢; exact ih h hk
  ·dsimp only at h
   rw [if_neg hc] at h
   cases hx:x == n with
   | true =>
    simp only [List.lookup,hx] at h ⊢
    cases h
    rcases hk with e | e
    ·exact absurd e (hn (n,k0) List.mem_cons_self)
    ·rw [e]
   | false=>simp only [List.lookup,hx] at h ⊢; exact ih h hk
theorem QcW {prog:Program} {w:World} {A:Around} {R:Result->Shared->Prop} {s:Shared} {elt target iter:Expr} {ifs:List Expr} {scope:Scope} {pos:Pos} {it acc:Value} {env:Env} (I:Nat->Shared->Prop)
  (turn:∀ n s,I n s->wpAny (model prog w) A (pyNext it) (fun r s₁=>match r with
   | none=>R (.ok .next) s₁
   | some v=>wpAny (model prog w) A (letOwnedTupleGo target it v) (fun _ s1'=>wpAny (model prog w) A (assign target env v) (fun _ s₂ =>
     wpAny (model prog w) A (forIn ifs true fun c r=>if r=true then do let ok ← isTrue c env (eval c env); pure (ForInStep.yield ok) else pure (ForInStep.yield r)) (fun ok s₃ =>
      if ok=true then wpAny (model prog w) A (eval elt env) (fun x s₄ =>
       wpAny (model prog w) A (call (.builtin "list.append") [acc,x]) (fun _ s₅=>∃ m,m<n∧I m s₅) (fun _ _=>False) s₄) (fun _ _=>False) s₃
      else ∃ m,m<n∧I m s₃) (fun _ _=>False) s₂) (fun _ _=>False) s1') (fun _ _=>False) s₁) (fun _ _=>False) s)
  (n:Nat) (h:I n s):codeAny (model prog w) A (.compLoop (.ListComp elt [⟨target,iter,ifs,0⟩] scope pos) 0 it acc env) R s:=by
 refine codeAny_loop rfl I (fun n s hI=>?_) n h
 show wpAny _ A ((compTurn (.ListComp elt [⟨target,iter,ifs,0⟩] scope pos) 0 it acc env).onRaise (fun x=>do noteFrame x env; theTreesLotGoes x)) _ _ s
 refine wpAny_noted ?_
 rw [compTurn_list]
 refine wpAny_bind (wpAny_standAt (wpAny_bind (wpAny_mono (turn n s hI) (fun r s₁ h₁=>?_) fun _ _ h'=>h'.elim)))
 cases r with
 | none=>exact wpAny_pure h₁
 | some v =>
  refine wpAny_bind (wpAny_mono h₁ (fun _ s1' h1'=>?_) fun _ _ h'=>h'.elim)
  refine wpAny_bind (wpAny_mono h1' (fun _ s₂ h₂=>wpAny_bind (wpAny_mono h₂ (fun ok s₃ h₃=>?_) fun _ _ h'=>h'.elim)) fun _ _ h'=>h'.elim)
  cases ok with
  | false=>exact wpAny_pure ⟨rfl,h₃⟩
  | true =>
   exact wpAny_bind (wpAny_bind (wpAny_mono h₃ (fun x s₄ h₄=>wpAny_bind (wpAny_mono h₄ (fun _ s₅ h₅=>wpAny_pure (wpAny_pure ⟨rfl,h₅⟩)) fun _ _ h'=>h'.elim)) fun _ _ h'=>h'.elim))
theorem Inv.track {X:Cx} {pins:List (Addr×Obj)} {σ:L2.St} {H:Hp} {s:Shared} {a:Addr} {o:HO} (I:Inv X pins σ H s) (ha:FpOk X pins H a) (new:ObjOk X.prog X.w (upd H a o) s.heap a o):Inv X pins σ (upd H a o) s:=by
 obtain⟨f0,f1,f2,f3,f4,f5⟩:=ha
 have ne:∀ b u,H b=some u->b≠a:=fun b u e=>QO e f0
 refine I.step (h':=s.heap) (g':=s.gens) (t':=s.toks) (d':=s.drawn) (ch:=[a]) (fun b hb=>?_) (fun b o _ _ _ e _=>e) (fun b o _ _ _ e _=>⟨o.slots,e⟩) (fun b o hb e n=>?_) (fun b o _ e=>⟨o,e⟩)
  (fun b xs e=>by rw [Qq (ne b _ e)]; exact e) (fun b o u e=>by rw [Qq (ne b _ e)]; exact e) (fun b ps e=>⟨#[],by rw [Qq (ne b _ e),e]; simp⟩) (fun _ h=>h) (fun b u e=>?_) I.bare
 ·have e:b=a:=by simpa using hb
  subst e
  exact⟨f3,f1,f4,f5⟩
 ·rw [Qq (fun z=>hb (by simp [z]))]; exact n
 ·by_cases hb:b=a
  ·subst hb; rw [Qn] at e; cases e; exact new
  ·rw [Qq hb] at e
   exact(I.hok b u e).stay (fun _ _ _ q=>q) (fun c q=>by rw [Qq (ne c _ q)]; exact q) fun c xs q=>by rw [Qq (ne c _ q)]; exact q
theorem FpOk.mono {X:Cx} {pins:List (Addr×Obj)} {H H':Hp} {b:Addr} (h:FpOk X pins H b) (n:H' b=none):FpOk X pins H' b:=⟨n,h.2⟩
noncomputable abbrev F0:XS:=fun _ _ _=>False
theorem noX {α:Type} {M:Model} {A:Around} {X:Cx} {ca:Nat->Addr} {t:Sem α} {Q:α->Shared->Prop} {s:Shared} (h:wpAny M A t Q (XE X ca F0) s):wpAny M A t Q (fun _ _=>False) s:=wpAny_mono h (fun _ _ z=>z) fun _ _ ⟨_,_,_,_,_,_,_,z⟩=>z
noncomputable def PIf (ca:Nat->Addr) (X:Cx) (ifs:List Expr) (m:MT):Prop :=
 ∀(pins:List (Addr×Obj)) (s:Shared) (σ:L2.St) (H:Hp) (Q:Bool->Hp->Prop),Inv (xat X ca [] F0) pins σ H s->upT X.K ca F0 m σ H Q ->
  wpAny (model X.prog X.w) X.A (forIn ifs true fun c r=>if r=true then do let ok ← isTrue c X.env (eval c X.env); pure (ForInStep.yield ok) else pure (ForInStep.yield r)) (TP (xat X ca [] F0) pins σ Q) (fun _ _=>False) s
theorem Qgl {X:Cx} {ca:Nat->Addr}:PIf ca X [] Y2:=by
 intro pins s σ H Q I ⟨_,_,μ,R,p⟩
 rw [List.forIn_nil]
 exact wpAny_pure ⟨H,I,p H μ .refl R.g⟩
theorem Qlo {X:Cx} {ca:Nat->Addr} {c:Expr} {m:MT} (h:PT3 ca X c m):PIf ca X [c] m:=by
 intro pins s σ H Q I q
 exact wpAny_tests_one (noX (h [] F0 pins s σ H Q I q))
end L3
end
section
namespace L3
open PySem PySem.Spec PyProof.Rows L2
section
variable {X:Cx} {ca:Nat->Addr} {pn:List (Addr×Obj)}
theorem Qlp {scope:Scope} {Nb:List Str} {no:Nat} {cap:List Nat} {cl:List (Str×Addr)} {pins:List (Addr×Obj)} {σ:L2.St} {H:Hp} {s:Shared} {ex:List Addr} (B:BScope X scope Nb no cap) (hcl:clOf X.env.cells scope.names []=some cl)
  (I:Inv (xat X ca pn F0) pins σ H s) (hex:∀ b∈ex,FpOk (xat X ca pn F0) pins H b) (hlt:∀ b∈ex,b<s.heap.objs.size):(xat (blk X scope cl s.heap.objs.size Nb s H ex) ca [] F0).Ok where
 mod:=I.ok.mod
 kind:=B.kind
 glob:=I.ok.glob
 blt:=I.ok.blt
 above:=Nat.le_refl _
 inj:=fun x y c h1 h2=>I.ok.inj x y c (Yw _ _ _ hcl (fun _ _ z=>by cases z) x c h1) (Yw _ _ _ hcl (fun _ _ z=>by cases z) y c h2)
 has:=fun x hx=>QaI _ _ _ hcl x (.inl (Qa3 (by
  rcases hx with hx | hx
  ·exact Y6 B.cell hx (.inl rfl)
  ·exact Y6 B.cell hx (.inr rfl))))
 cab:=fun _ _ z=>by cases z
 hd:=I.ok.hd
 frames:=I.ok.frames
 stk:=.inl rfl
 exf:=fun b hb=>⟨Nat.ne_of_lt (hlt b hb),fun x c e z=>(hex b hb).2.2.2.2.1 x c (Yw _ _ _ hcl (fun _ _ z=>by cases z) x c e) z⟩
 bs:=I.bs
 bsz:=Nat.le_trans I.ok.bsz I.sz
 noex:=fun b o e hb=>by
  rcases(hex b hb).2.2.2.1 with z | z
  ·exact I.ok.noex b o e z
  ·exact absurd (Nat.lt_of_lt_of_le (Heap.lt_size e) (Nat.le_trans I.ok.bsz z)) (Nat.lt_irrefl _)
 exfs:=fun b hb z=>by
  rcases List.mem_cons.mp (I.stkSub b z) with e | e
  ·exact(hex b hb).2.1 e
  ·exact(hex b hb).2.2.1 e
 funs:=I.stack
 frf:=I.stkFree
theorem YE {env:Env}:∀ {names:List (Str×NameKind)} {x:Str},names.lookup x=some .free ->
  (names.map fun(n,k)=>if (k == NameKind.free && env.scope.kind == .function && env.kindOf n == some .cell) then (n,NameKind.cell) else (n,k)).lookup x=some .local->False
 | [],_,h,_=>by cases h
 | (n,k0)::r,x,h,h'=>by
  have ih:=@YE env r x
  rw [List.map_cons] at h'
  dsimp only at h'
  by_cases hc:(k0 == NameKind.free && env.scope.kind == .function && env.kindOf n == some .cell)=true
  ·rw [if_pos hc] at h'
   cases hx:x == n with
   | true=>simp only [List.lookup,hx] at h'; cases h'
   | false=>simp only [List.lookup,hx] at h h'; exact ih h h'
  ·rw [if_neg hc] at h'
   cases hx:x == n with
   | true=>simp only [List.lookup,hx] at h h'; rw [h'] at h; cases h
   | false=>simp only [List.lookup,hx] at h h'; exact ih h h'
theorem QhG {K:PySem.W.Frag} {ca:Nat->Addr} {μ2:List Addr} {σ3:S3} {g1:G} {σ:L2.St} {H2:Hp} (no:Nat) (cap:List Nat) (R2:Rep K ca μ2 σ3 g1 σ H2):Rep K ca μ2 (capt no cap σ3) g1 (List.replicate no none++cap.map fun i=>(σ[i]?).getD none) H2:=by
 refine⟨R2.g,?_,fun i d h=>?_⟩
 ·unfold capt
  rw [List.length_append,List.length_append,List.length_replicate,List.length_replicate,List.length_map,List.length_map]
 ·unfold capt at h
  have hi:no≤i:=by
   apply Nat.le_of_not_lt
   intro hlt
   rw [List.getElem?_append_left (by simpa using hlt),List.getElem?_replicate,if_pos hlt] at h
   cases h
  rw [List.getElem?_append_right (by simpa using hi),List.length_replicate,List.getElem?_map] at h ⊢
  cases hcp:cap[i - no]? with
  | none=>rw [hcp] at h; cases h
  | some j =>
   rw [hcp] at h
   have h:(σ3[j]?).getD none=some d:=by simpa using h
   have hs:σ3[j]?=some (some d):=by
    cases z:σ3[j]? with
    | none=>rw [z] at h; cases h
    | some w=>rw [z] at h; have h:w=some d:=h; rw [h]
   obtain⟨v,h1,h2⟩:=R2.st j d hs
   exact⟨v,by simp [h1],h2⟩
theorem Qgm {tg iter elt:Expr} {ifs:List Expr} {scope:Scope} {pos:Pos} {Nb:List Str} {no:Nat} {cap:List Nat} {cl:List (Str×Addr)} {f:MG} {tc:MT} {me:ME} {src:Src}
  {pins:List (Addr×Obj)} {σ:L2.St} {σ3:S3} {H2:Hp} {s2:Shared} {μ2:List Addr} {g1 g2:G} {ds:List D} {it:Addr} {fp:List Addr} {tn:Nat->Heap->Prop} {J:It} {RR:Value->Addr->Result->Shared->Prop} {E:Value->Shared->Prop}
  (B:BScope X scope Nb no cap) (hc:X.calm=true)
  (hb:∀ cl C s3 H3 ex,PG3 ca (blk X scope cl C Nb s3 H3 ex) tg f∧PIf ca (blk X scope cl C Nb s3 H3 ex) ifs tc∧PE3 ca (blk X scope cl C Nb s3 H3 ex) elt me)
  (hcl:clOf X.env.cells scope.names []=some cl)
  (I2:Inv (xat X ca pn F0) pins σ H2 s2) (T:Turn X.prog X.w X.K tg J fp it tn) (st2:tn 0 s2.heap) (f2:∀ b∈fp,FpOk (xat X ca pn F0) pins H2 b) (R2:Rep X.K ca μ2 σ3 g1 σ H2) (sim:Sim X.K ca μ2 H2 src J)
  (hz:src.top≤SZ) (hL:YR src f tc me (src.top+1) 0 (capt no cap σ3) g1 []=.ok ds g2)
  (fin:∀(D C:Addr) (s':Shared) (H4:Hp) (μ4:List Addr) (accV:List V) (its:List Value) (k:Nat),Inv (xat X ca pn F0) pins σ H4 s'->(∃ m,s'.heap.Ns C m)->FpOk (xat X ca pn F0) pins H4 C->FpOk (xat X ca pn F0) pins H4 D->D≠C ->
   s'.heap.get? D=some { cls:=.type "list",data:=.seq its.toArray k }->Vals accV its->accV.length≤sizeLine->Ext X.K μ2 H2 μ4 H4->GRep X.K ca μ4 H4 g2->Dens X.K μ4 H4 accV ds->RR (.ref D) C (.ok .next) s') :
  wpAny (model X.prog X.w) X.A (newList []) (fun acc s₃=>wpAny (model X.prog X.w) X.A (newFunctionEnv scope X.env.globals cl [] X.env.qual none .none (some X.env)) (fun cenv s₄ =>
   codeAny (model X.prog X.w) X.A (.compStart (.ListComp elt [⟨tg,iter,ifs,0⟩] scope pos) 0 (.ref it) acc { cenv with scope:=relabel scope X.env }) (RR acc cenv.locals) s₄) E s₃) E s2:=by
 refine wpAny_newObj_type (wpAny_newFunctionEnv B.cell (by intro y hy; simp at hy) (fun h₁ hns₁ hsb₁=>?_) B.kind)
 dsimp only at hns₁ hsb₁ ⊢
 generalize hH2:s2.heap.push { cls:=.type "list",dict:=none,data:=.seq ([]:List Value).toArray }=hp at hns₁ hsb₁ ⊢
 have hC:hp.objs.size=s2.heap.objs.size+1:=by rw [← hH2,Heap.size_push]
 have I3:Inv (xat X ca pn F0) pins σ H2 { s2 with heap:=hp }:=by rw [← hH2]; exact I2.kept (t':=s2.toks) fun b o e=>Heap.get?_push_of_some _ e
 have hD3:hp.get? s2.heap.objs.size=some { cls:=.type "list",data:=.seq ([]:List Value).toArray }:=by rw [← hH2]; exact Heap.get?_push_size _ rfl
 have fD:FpOk (xat X ca pn F0) pins H2 s2.heap.objs.size:=I2.fpOk (Nat.le_refl _) (I2.hok.fresh (Nat.le_refl _))
 have fC:FpOk (xat X ca pn F0) pins H2 hp.objs.size:=I3.fpOk (Nat.le_refl _) (I3.hok.fresh (Nat.le_refl _))
 have fplt:∀ b∈fp,b<s2.heap.objs.size:=fun b hb=>by
  obtain⟨o,e,_⟩:=T.obj 0 _ st2 b hb
  exact Heap.lt_size e
 have DnF:s2.heap.objs.size∉fp:=fun h=>Nat.lt_irrefl _ (fplt _ h)
 have DnC:s2.heap.objs.size≠hp.objs.size:=by rw [hC]; exact Nat.ne_of_lt (Nat.lt_succ_self _)
 have exOk:∀ b∈s2.heap.objs.size::fp,FpOk (xat X ca pn F0) pins H2 b:=fun b hb=>by
  rcases List.mem_cons.mp hb with e | e
  ·rw [e]; exact fD
  ·exact f2 b e
 have exLt:∀ b∈s2.heap.objs.size::fp,b<hp.objs.size:=fun b hb=>by
  rcases List.mem_cons.mp hb with e | e
  ·rw [e,hC]; exact Nat.lt_succ_self _
  ·rw [hC]; exact Nat.lt_succ_of_lt (fplt b e)
 have okb:(xat (blk X scope cl hp.objs.size Nb { s2 with heap:=hp } H2 (s2.heap.objs.size::fp)) ca [] F0).Ok:=Qlp (s:={ s2 with heap:=hp }) B hcl I3 exOk exLt
 obtain⟨hgB,hiB,heB⟩:=hb cl hp.objs.size { s2 with heap:=hp } H2 (s2.heap.objs.size::fp)
 have old:∀ b o,hp.get? b=some o->h₁.get? b=some o:=fun b o e=>hsb₁.extBut b o (Nat.ne_of_lt (Heap.lt_size e)) (Heap.get?_push_of_some _ e)
 -- the block's first state
 have Ib:Inv (xat (blk X scope cl hp.objs.size Nb { s2 with heap:=hp } H2 (s2.heap.objs.size::fp)) ca [] F0) [] (List.replicate no none++cap.map fun i=>(σ[i]?).getD none) H2 { s2 with heap:=h₁,toks:=s2.toks+([]:List (Str×Value)).length }:=by
  refine⟨okb,rfl,I3.bare,Un.kept old,⟨_,hns₁,fun i x v h1 h2 h3=>?_⟩,fun x c e=>?_,fC.1,fun x c e=>?_,fun p hp=>absurd (show p∈([]:List (Addr×Obj)) from hp) (by simp),I3.hok.kept old,?_⟩
  ·have hi:no≤i:=by
    apply Nat.le_of_not_lt
    intro hlt
    rw [List.getElem?_append_left (by simpa using hlt),List.getElem?_replicate,if_pos hlt] at h2
    cases h2
   rw [List.getElem?_append_right (by simpa using hi),List.length_replicate,List.getElem?_map] at h2
   cases hcp:cap[i - no]? with
   | none=>rw [hcp] at h2; cases h2
   | some j =>
    rw [hcp] at h2
    have h2:(σ[j]?).getD none=some v:=by simpa using h2
    have hs:σ[j]?=some (some v):=by
     cases z:σ[j]? with
     | none=>rw [z] at h2; cases h2
     | some w=>rw [z] at h2; have h2:w=some v:=h2; rw [h2]
    obtain⟨y,n1,n2,n3,n4,n5⟩:=B.cap (i - no) j hcp
    have e0:no+(i - no)=i:=by omega
    rw [e0] at n1
    have h1:Nb[i]?=some x:=h1
    have hxy:y=x:=Option.some.inj (n1.symm.trans h1)
    subst hxy
    obtain⟨m,hn,hl⟩:=I3.loc
    obtain⟨u,ru,lk⟩:=hl j y v n2 hs n4
    refine⟨u,ru,.inr ⟨?_,?_⟩⟩
    ·rcases h3 with z | z | z
     ·exact(YE n3 z).elim
     ·exact .inl z
     ·exact .inr z
    ·rcases lk with⟨k1,_⟩ | ⟨_,c,k2,k3⟩
     ·exact absurd k1 n5
     ·obtain⟨c',hc'⟩:=QaI _ _ _ hcl y (.inl (Qa3 n3))
      have:=Yw _ _ _ hcl (fun _ _ z=>by cases z) y c' hc'
      have k2:X.env.cells.lookup y=some c:=k2
      have hcc:c'=c:=Option.some.inj (this.symm.trans k2)
      subst hcc
      exact⟨c',hc',k3.keeps old⟩
  ·obtain⟨v,z⟩:=I3.cell x c (Yw _ _ _ hcl (fun _ _ z=>by cases z) x c e)
   exact⟨v,z.keeps old⟩
  ·exact I3.freeC x c (Yw _ _ _ hcl (fun _ _ z=>by cases z) x c e)
  ·rw [List.length_append,List.length_replicate,List.length_map]; exact B.len.symm
 have RbR:=QhG no cap R2
 have eK:(xat (blk X scope cl hp.objs.size Nb { s2 with heap:=hp } H2 (s2.heap.objs.size::fp)) ca [] F0).K=X.K:=rfl
 have eP:(xat (blk X scope cl hp.objs.size Nb { s2 with heap:=hp } H2 (s2.heap.objs.size::fp)) ca [] F0).prog=X.prog:=rfl
 have eW:(xat (blk X scope cl hp.objs.size Nb { s2 with heap:=hp } H2 (s2.heap.objs.size::fp)) ca [] F0).w=X.w:=rfl
 have eA:(xat (blk X scope cl hp.objs.size Nb { s2 with heap:=hp } H2 (s2.heap.objs.size::fp)) ca [] F0).A=X.A:=rfl
 have eE:(xat (blk X scope cl hp.objs.size Nb { s2 with heap:=hp } H2 (s2.heap.objs.size::fp)) ca [] F0).env=compEnvC scope cl hp.objs.size X.env:=rfl
 have eC:(xat (blk X scope cl hp.objs.size Nb { s2 with heap:=hp } H2 (s2.heap.objs.size::fp)) ca [] F0).calm=true:=hc
 have eX:∀ b∈s2.heap.objs.size::fp,b∈(xat (blk X scope cl hp.objs.size Nb { s2 with heap:=hp } H2 (s2.heap.objs.size::fp)) ca [] F0).ex:=fun b hb=>hb
 have eN:∀ {pl:List (Addr×Obj)} {p:Addr×Obj},p∈(xat (blk X scope cl hp.objs.size Nb { s2 with heap:=hp } H2 (s2.heap.objs.size::fp)) ca [] F0).pn++pl->p∈pl:=fun h=>h
 have toUn:∀ {pl:List (Addr×Obj)} {σ':L2.St} {H':Hp} {s':Shared},Inv (xat (blk X scope cl hp.objs.size Nb { s2 with heap:=hp } H2 (s2.heap.objs.size::fp)) ca [] F0) pl σ' H' s'->Un (frs (xat X ca pn F0).stack) (s2.heap.objs.size::fp) H2 H' hp s'.heap:=fun I=>I.base
 have toOs:∀ {pl:List (Addr×Obj)} {σ':L2.St} {H':Hp} {s':Shared},Inv (xat (blk X scope cl hp.objs.size Nb { s2 with heap:=hp } H2 (s2.heap.objs.size::fp)) ca [] F0) pl σ' H' s'->s'.os=s2.os:=fun I=>I.os
 generalize blk X scope cl hp.objs.size Nb { s2 with heap:=hp } H2 (s2.heap.objs.size::fp)=Xb at okb hgB hiB heB Ib eK eP eW eA eE eC eX eN toUn toOs
 -- the iterator's records,through the block
 have FpB:∀ {H:Hp} {pl:List (Addr×Obj)},(∀ b∈fp,H b=none)->(∀ p∈pl,p.1∉fp)->∀ b∈fp,FpOk (xat Xb ca [] F0) pl H b:=fun {H pl} hn hpl b hb=>by
  have e0:=okb.exf b (eX b (List.mem_cons_of_mem _ hb))
  refine⟨hn b hb,e0.1,?_,.inl (eX b (List.mem_cons_of_mem _ hb)),e0.2,fun p hp z=>?_⟩
  ·exact okb.exfs b (eX b (List.mem_cons_of_mem _ hb))
  ·have hp':p∈pl:=eN hp
   exact hpl p hp' (z ▸ hb)
 have FpD:∀ {H:Hp},H s2.heap.objs.size=none->FpOk (xat Xb ca [] F0) [] H s2.heap.objs.size:=fun {H} hn=>by
  have e0:=okb.exf s2.heap.objs.size (eX _ List.mem_cons_self)
  refine⟨hn,e0.1,?_,.inl (eX _ List.mem_cons_self),e0.2,fun p hp=>?_⟩
  ·exact okb.exfs s2.heap.objs.size (eX _ List.mem_cons_self)
  ·exact absurd (eN hp) (by simp)
 have st4:tn 0 h₁:=T.keep _ _ _ st2 fun b hb o e=>old b o (by rw [← hH2]; exact Heap.get?_push_of_some _ e)
 -- the invariant
 have loop:∀ s4:Shared,s4 = { s2 with heap:=h₁,toks:=s2.toks+([]:List (Str×Value)).length } ->
   codeAny (model X.prog X.w) X.A (.compLoop (.ListComp elt [⟨tg,iter,ifs,0⟩] scope pos) 0 (.ref it) (.ref s2.heap.objs.size) (compEnvC scope cl hp.objs.size X.env)) (RR (.ref s2.heap.objs.size) hp.objs.size) s4:=by
  rintro s4 rfl
  refine QcW (fun n s'=>∃(i:Nat) (σ4:S3) (g4:G) (μ4:List Addr) (σ5:L2.St) (H4:Hp) (acc:List D) (accV:List V) (its:List Value) (k:Nat),Inv (xat Xb ca [] F0) [] σ5 H4 s'∧tn i s'.heap∧(∀ b∈fp,H4 b=none)∧H4 s2.heap.objs.size=none ∧
   s'.heap.get? s2.heap.objs.size=some { cls:=.type "list",data:=.seq its.toArray k }∧Vals accV its∧Ext X.K μ2 H2 μ4 H4∧Rep X.K ca μ4 σ4 g4 σ5 H4∧Dens X.K μ4 H4 accV acc∧YR src f tc me n i σ4 g4 acc=.ok ds g2 ∧
   acc.length≤i∧i+n≤SZ+1) ?_ (src.top+1) ⟨0,capt no cap σ3,g1,μ2,_,H2,[],[],[],_,Ib,st4,fun b hb=>(f2 b hb).1,fD.1,old _ _ hD3,.nil,.refl,RbR,.nil,hL,Nat.le_refl _,by omega⟩
  rintro n s5 ⟨i,σ4,g4,μ4,σ5,H4,acc,accV,its,k,I5,st5,fr5,frD,hD5,va,e5,R5,da,hl5,ha5,hn5⟩
  cases n with
  | zero=>cases hl5
  | succ n =>
   unfold YR at hl5
   have s1:=sim i H4 μ4 g4 e5 R5.g
   have pinD:Inv (xat Xb ca [] F0) [(s2.heap.objs.size,{ cls:=.type "list",data:=.seq its.toArray k })] σ5 H4 s5:=I5.pins_of fun p hp=>by
    rw [List.mem_singleton.mp hp]
    have z:=FpD frD
    exact⟨hD5,frD,z.2.1,z.2.2.1,fun v q=>by cases q⟩
   have nofp:∀ p∈[(s2.heap.objs.size,({ cls:=.type "list",data:=.seq its.toArray k }:Obj))],p.1∉fp:=fun p hp=>by rw [List.mem_singleton.mp hp]; exact DnF
   have getD:∀ {σ':L2.St} {H':Hp} {s':Shared} {pl:List (Addr×Obj)},Inv (xat Xb ca [] F0) ([(s2.heap.objs.size,({ cls:=.type "list",data:=.seq its.toArray k }:Obj))]++pl) σ' H' s'->s'.heap.get? s2.heap.objs.size=some { cls:=.type "list",data:=.seq its.toArray k }∧H' s2.heap.objs.size=none:=fun {σ' H' s' pl} I'=>by
    have z:=I'.pin (s2.heap.objs.size,{ cls:=.type "list",data:=.seq its.toArray k }) (List.mem_append_right _ (List.mem_append_left _ (List.mem_singleton.mpr rfl)))
    exact⟨z.1,z.2.1⟩
   cases hat:src.at' g4 i with
   | none=>rw [hat] at hl5; cases hl5
   | some od =>
    rw [hat] at hl5 s1
    cases od with
    | none =>
     cases hl5
     have dn:=T.done (xat Xb ca [] F0) eP eW eK eC i _ s5 σ5 H4 (fun _ _=>False) pinD (FpB fr5 nofp) st5 s1
     rw [eA] at dn
     refine thn dn fun r s6 ⟨hr,I6⟩=>?_
     subst hr
     obtain⟨hD6,frD6⟩:=getD (pl:=[]) (by rw [List.append_nil]; exact I6)
     have un:Un (frs (xat X ca pn F0).stack) (s2.heap.objs.size::fp) H2 H4 hp s6.heap:=toUn I6
     have hok:HOk (xat X ca pn F0).prog (xat X ca pn F0).w H4 s6.heap:=by have:=I6.hok; rw [eP,eW] at this; exact this
     have os:s6.os=s2.os:=toOs I6
     have I7:Inv (xat X ca pn F0) pins σ H4 s6:=Inv.call' (s':=s6) (ch:=s2.heap.objs.size::fp) I3 os un hok I6.bare fun b hb=>⟨(exOk b hb).2.2.2.1,(exOk b hb).2.1,(exOk b hb).2.2.2.2.1,(exOk b hb).2.2.2.2.2⟩
     have hCn:H4 hp.objs.size=none:=by have:=I6.free; rw [eE] at this; exact this
     have nsC:∃ m,s6.heap.Ns hp.objs.size m:=by obtain⟨m,hm,_⟩:=I6.loc; rw [eE] at hm; exact⟨m,hm⟩
     refine fin _ _ s6 H4 μ4 accV its k I7 nsC (FpOk.mono fC hCn) (FpOk.mono fD frD6) DnC hD6 va ?_ e5 R5.g da
     rw [da.length]
     have:=JB
     omega
    | some d =>
     obtain⟨go,yl⟩:=s1
     dsimp only at hl5
     cases hf:f d σ4 with
     | none=>rw [hf] at hl5; cases hl5
     | some σ6 =>
      rw [hf] at hl5
      dsimp only at hl5
      have im:=T.item (xat Xb ca [] F0) eP eW eK eC i _ s5 σ5 H4 (fun _ _=>False) pinD (FpB fr5 nofp) st5 go
      rw [eA] at im
      refine thn im fun r s6 ⟨u,hr,h6⟩=>?_
      subst hr
      refine thn h6 fun _ s7 ⟨x,H7,I7,r7,y7,st7,fr7⟩=>?_
      obtain⟨e7,g7,q7⟩:=yl x H7 y7
      have I7':=I7.pinned (FpB fr7 nofp) (T.obj _ _ st7)
      have R7:=R5.go e7 g7
      have asg:=hgB [] F0 _ s7 σ5 H7 x u (fun σ' H'=>H'=H7∧Rep X.K ca μ4 σ6 g4 σ' H7) I7' r7 (by
       have:Xb.K=X.K:=eK
       rw [this]
       exact⟨σ4,g4,μ4,d,σ6,R7,q7,hf,fun σ' R'=>⟨rfl,R'⟩⟩)
      rw [eP,eW,eA,eE] at asg
      refine thn (noX asg) fun _ s8 ⟨σ8,H8,I8,e8,R8⟩=>?_
      subst e8
      cases ht:tc σ6 g4 with
      | raise _ _=>rw [ht] at hl5; cases hl5
      | stuck=>rw [ht] at hl5; cases hl5
      | ok b g9 =>
       rw [ht] at hl5
       have hl5:(if b=true then (match me σ6 g9 with | .ok y g2=>YR src f tc me n (i+1) σ6 g2 (acc++[y]) | _=>.stuck) else YR src f tc me n (i+1) σ6 g9 acc)=.ok ds g2:=hl5
       have tst:=hiB _ s8 σ8 _ (fun b' H'=>b'=b∧∃ μ9,Ext X.K μ4 H8 μ9 H'∧Rep X.K ca μ9 σ6 g9 σ8 H') I8 (by
        have:Xb.K=X.K:=eK
        rw [this]
        refine⟨σ6,g4,μ4,R8,?_⟩
        rw [ht]
        exact fun H' μ' e' r'=>⟨rfl,μ',e',R8.go e' r'⟩)
       have eP':Xb.prog=X.prog:=eP
       have eW':Xb.w=X.w:=eW
       have eA':Xb.A=X.A:=eA
       have eE':Xb.env=compEnvC scope cl hp.objs.size X.env:=eE
       rw [eP',eW',eA',eE'] at tst
       refine thn tst fun ok s9 ⟨H9,I9,eb,μ9,e9,R9⟩=>?_
       subst eb
       have again:∀ {σ':L2.St} {H':Hp} {s':Shared},Inv (xat Xb ca [] F0) ([(s2.heap.objs.size,({ cls:=.type "list",data:=.seq its.toArray k }:Obj))]++QcF fp s7.heap) σ' H' s'->Inv (xat Xb ca [] F0) [] σ' H' s'∧tn (i+1) s'.heap∧∀ b∈fp,H' b=none:=fun {σ' H' s'} I'=>by
        refine⟨I'.pins_of fun p hp=>absurd hp (by simp),T.keep _ _ _ st7 fun b hb o e=>(I'.pin (b,o) (List.mem_append_right _ (List.mem_append_right _ (Jh hb e)))).1,fun b hb=>?_⟩
        obtain⟨o,e,_⟩:=T.obj _ _ st7 b hb
        exact(I'.pin (b,o) (List.mem_append_right _ (List.mem_append_right _ (Jh hb e)))).2.1
       cases ok with
       | false =>
        rw [if_neg Bool.false_ne_true] at hl5 ⊢
        obtain⟨J1,J2,J3⟩:=again I9
        obtain⟨K1,K2⟩:=getD I9
        refine⟨n,Nat.lt_succ_self n,i+1,σ6,g9,μ9,σ8,H9,acc,accV,its,k,J1,J2,J3,K2,K1,va,(e5.trans e7).trans e9,R9,(da.mono e7).mono e9,hl5,by omega,by omega⟩
       | true =>
        rw [if_pos rfl] at hl5 ⊢
        cases hm:me σ6 g9 with
        | raise _ _=>rw [hm] at hl5; cases hl5
        | stuck=>rw [hm] at hl5; cases hl5
        | ok y g10 =>
         rw [hm] at hl5
         have hl5:YR src f tc me n (i+1) σ6 g10 (acc++[y])=.ok ds g2:=hl5
         have el:=heB [] F0 _ s9 σ8 H9 (fun vy H'=>∃ μ10,Ext X.K μ9 H9 μ10 H'∧Rep X.K ca μ10 σ6 g10 σ8 H'∧Den X.K μ10 H' vy y) I9 (by
          have:Xb.K=X.K:=eK
          rw [this]
          refine⟨σ6,g9,μ9,R9,?_⟩
          rw [hm]
          exact fun v H' μ' e' r' q'=>⟨μ',e',R9.go e' r',q'⟩)
         rw [eP,eW,eA,eE] at el
         refine thn (noX el) fun uy s10 ⟨vy,H10,I10,ry,μ10,e10,R10,qy⟩=>?_
         obtain⟨K1,K2⟩:=getD I10
         obtain⟨J1,J2,J3⟩:=again I10
         have hlen:its.length=acc.length:=by rw [← va.length,da.length]
         refine call_meets F.slot_list_append ⟨_,K1,rfl⟩ F.entry_list_append (F.args_list_append_2 _ _) (PySem.list_append s2.heap.objs.size its.toArray k uy (by rw [List.size_toArray,sizeLine_eq]; have:SZ=1000000:=rfl; omega)) ⟨K1,?_⟩
         have up:=PySem.IsL.update K1 (·.push uy)
         rw [show its.toArray.push uy=(its++[uy]).toArray by simp] at up
         have upo:∀ b o,b≠s2.heap.objs.size->s10.heap.get? b=some o->(s10.heap.update s2.heap.objs.size (Obj.mapSeq (·.push uy))).get? b=some o:=fun b o hb e=>(Heap.get?_update_other s10.heap (Obj.mapSeq (·.push uy)) (Ne.symm hb)).trans e
         obtain⟨d0,d1,d2,d3,d4,d5⟩:=FpD K2
         refine⟨n,Nat.lt_succ_self n,i+1,σ6,g10,μ10,σ8,H10,acc++[y],accV++[vy],its++[uy],_,J1.turned (t':=s10.toks) upo d0 d1 d3 d4 d5,T.keep _ _ _ J2 fun b hb o e=>upo b o (fun z=>DnF (z ▸ hb)) e,J3,K2,up,va.append (.cons ry .nil),
          ((e5.trans e7).trans e9).trans e10,R10,((da.mono e7).mono e9).mono e10 |>.append (.cons qy .nil),hl5,by rw [List.length_append,List.length_singleton]; omega,by omega⟩
 exact codeAny_compStart_list (loop _ rfl) (T.self _ 0 _ _ _ st4 (loop _ rfl))
end
end L3
end
section
namespace L3
open PySem PySem.Spec PyProof.Rows L2
section
variable {X:Cx} {ca:Nat->Addr}
theorem QhH {K:PySem.W.Frag} {Φ:XS} {σ:L2.St} {Q:VK} {H:Hp} {μ:List Addr} {mi:MI} {no:Nat} {cap:List Nat} {f:MG} {tc:MT} {me:ME} {σ3:S3} {g:G} (p:Post K ca Φ σ Q H μ (Y0 mi no cap f tc me σ3 g)) :
  ∃ src g1 ds g2,mi σ3 g=.ok src g1∧src.top≤SZ∧YR src f tc me (src.top+1) 0 (capt no cap σ3) g1 []=.ok ds g2∧Post K ca Φ σ Q H μ (.ok (.ref g2.length) (g2++[.lst ds])):=by
 unfold Y0 at p
 cases hm:mi σ3 g with
 | raise _ _=>rw [hm] at p; exact p.elim
 | stuck=>rw [hm] at p; exact p.elim
 | ok src g1 =>
  rw [hm] at p
  dsimp only at p
  by_cases hz:src.top≤SZ
  ·rw [if_pos hz] at p
   cases hL:YR src f tc me (src.top+1) 0 (capt no cap σ3) g1 [] with
   | raise _ _=>rw [hL] at p; exact p.elim
   | stuck=>rw [hL] at p; exact p.elim
   | ok ds g2=>rw [hL] at p; exact⟨src,g1,ds,g2,rfl,hz,hL,p⟩
  ·rw [if_neg hz] at p; exact p.elim
theorem Qa4 {tg iter elt:Expr} {ifs:List Expr} {scope:Scope} {pos:Pos} {Nb:List Str} {no:Nat} {cap:List Nat} {mi:MI} {f:MG} {tc:MT} {me:ME}
  (B:BScope X scope Nb no cap) (hc:X.calm=true) (hi:PI3 ca X tg iter mi)
  (hb:∀ cl C s3 H3 ex,PG3 ca (blk X scope cl C Nb s3 H3 ex) tg f∧PIf ca (blk X scope cl C Nb s3 H3 ex) ifs tc∧PE3 ca (blk X scope cl C Nb s3 H3 ex) elt me)
  (hs:∀ x,foldedSetIterable iter X.env x=pure x:=by intro _; rfl):PE3 ca X (.ListComp elt [⟨tg,iter,ifs,0⟩] scope pos) (Y0 mi no cap f tc me):=by
 intro pn Φ pins s σ H Q I' ⟨σ3,g,μ,R,p⟩
 obtain⟨src,g1,ds,g2,hm,hz,hL,p⟩:=QhH p
 have I:Inv (xat X ca pn F0) pins σ H s:=Inv.wish I' _
 suffices hh:wpAny (model X.prog X.w) X.A (eval (.ListComp elt [⟨tg,iter,ifs,0⟩] scope pos) X.env) (EP (xat X ca pn F0) pins σ Q) (fun _ _=>False) s from
  wpAny_mono hh (fun u s' ⟨v,H',J,r,q⟩=>⟨v,H',Inv.wish J _,r,q⟩) fun _ _ z=>z.elim
 obtain⟨cl,hcl⟩:=Qa2 (cells:=X.env.cells) scope.names [] fun y hy hf=>I.ok.has y.1 (B.free y hy hf)
 rw [eval_ListComp]
 refine wpAny_comprehension_free (env:=X.env) (use:=none) rfl hs (Qb9 hcl) B.kind B.loc ?_
 refine thn (noX (hi pn F0 pins s σ H (fun J H'=>∃ μ',Ext X.K μ H μ' H'∧GRep X.K ca μ' H' g1∧Sim X.K ca μ' H' src J) I ⟨σ3,g,μ,R,?_⟩)) fun v s1 h1=>thn (noX h1) fun itv s2 h2=>?_
 ·rw [hm]
  exact fun J H' μ' e r sm=>⟨μ',e,r,sm⟩
 ·obtain⟨it,fp,tn,J,H2,e,I2,T,st2,f2,μ2,e2,r2,sim⟩:=h2
  subst e
  refine Qgm (X:=X) (pn:=pn) (RR:=fun acc C=>compPost (model X.prog X.w) X.A (fun _ _=>False) none (EP (xat X ca pn F0) pins σ Q) acc C) B hc hb hcl I2 T st2 f2 (R.go e2 r2) sim hz hL ?_
  intro D C s' H4 μ4 accV its k I4 nsC fC fD dc hD va hl e4 r4 da
  obtain⟨m,nsC⟩:=nsC
  refine⟨m,nsC,fun h'' hs''=>?_⟩
  have I5:Inv (xat X ca pn F0) pins σ H4 { s' with heap:=h'' }:=I4.turned (t':=s'.toks) (fun b o hb e=>hs''.extBut b o hb e) fC.1 fC.2.1 fC.2.2.2.1 fC.2.2.2.2.1 fC.2.2.2.2.2
  have hD':=hs''.extBut _ _ dc hD
  have I6:=Inv.track (o:=.lst accV) I5 fD ⟨hl,its,k,va,hD'⟩
  refine⟨.ref D,_,I6,rfl,p _ _ (μ4++[D]) ((e2.trans e4).trans (QE fD.1)) (r4.push fD.1 ⟨accV,Qn,da.mono (QE fD.1)⟩) (.ref ?_)⟩
  rw [← r4.len]; simp
end
end L3
end
section
namespace L3
open PySem PySem.Spec PyProof.Rows L2
section
variable {X:Cx} {ca:Nat->Addr} {a b:Expr} {ma mb:ME} {pos:Pos}
theorem QhI:OpR X (binaryOp .Add) (fun x y H Q=>∃ a b ys,x=.ref a∧y=.ref b∧SqT X.K H a []∧SqT X.K H b ys∧Q (.ref b) H):=by
 intro pins s σ H x y v u Q I rx ry h
 obtain⟨a,b,ys,rfl,rfl,ha,hb,q⟩:=h
 cases rx
 cases ry
 obtain⟨us,r1,p1,_⟩:=I.tuple ha
 obtain⟨ts,r2,p2,_⟩:=I.tuple hb
 cases r1
 obtain⟨⟨cls,dd,data,sl⟩,ho,hc,n,hd⟩:=id p1
 obtain⟨⟨cls2,dd2,data2,sl2⟩,ho2,hc2,n2,hd2⟩:=id p2
 simp only at hc hd hc2 hd2
 subst hc hd hc2 hd2
 exact concat_meets ⟨_,ho,rfl⟩ ⟨_,ho2,rfl⟩ noFill_tuple_add seq_tuple_add PySem.F.slot_tuple_add PySem.F.entry_tuple_add (PySem.F.args_tuple_add_2 _ _)
   (tuple_addW0 a b _ _ n n2 dd dd2 sl sl2 (by simp)) ⟨ho,ho2,⟨.ref b,H,I,rfl,q⟩⟩
theorem QhJ {K:PySem.W.Frag}:Y3 K ca (fun x y H Q=>(((∃ i j,x=.int i∧y=.int j∧Q (.int (i+j)) H)∨Qk8 K x y H Q)∨rCat x y H Q)∨(∃ a b ys,x=.ref a∧y=.ref b∧SqT K H a []∧SqT K H b ys∧Q (.ref b) H)) pAdd:=by
 intro Φ σ H μ g x y dx dy Q r qx qy p
 unfold pAdd at p
 cases qx with
 | int i =>
  cases qy with
  | int j=>exact .inl (.inl (.inl ⟨i,j,rfl,rfl,p _ H μ .refl r (.int _)⟩))
  | _=>exact p.elim
 | @tup ax xs dsx hx hsx =>
  cases qy with
  | @tup ay ys dsy hy hsy =>
   dsimp only at p
   by_cases z:dsx.length+dsy.length≤SZ
   ·rw [if_pos z] at p
    by_cases hx0:dsx=[]
    ·subst hx0
     cases hsx
     exact .inr ⟨ax,ay,ys,rfl,rfl,hx,hy,p _ H μ .refl r (.tup hy hsy)⟩
    ·refine .inl (.inl (.inr ⟨ax,ay,xs,ys,rfl,rfl,hx,hy,?_,by rw [hsx.length,hsy.length]; exact Nat.le_trans z JB,fun e=>?_,fun _ t ht=>p _ _ μ (Q8 ht) (r.new ht) (.tup (.of Qn) ((hsx.append hsy).mono (Q8 ht)))⟩))
     ·rintro rfl
      cases hsx
      exact hx0 rfl
     ·subst e
      cases hsy
      rw [List.append_nil] at p
      exact p _ H μ .refl r (.tup hx hsx)
   ·rw [if_neg z] at p; exact p.elim
  | _=>exact p.elim
 | @ref n an hn =>
  cases qy with
  | @ref m am hm =>
   dsimp only at p
   cases hg:g[n]? with
   | none=>rw [hg] at p; exact p.elim
   | some o =>
    cases hg2:g[m]? with
    | none=>rw [hg,hg2] at p; cases o <;> exact p.elim
    | some o2 =>
     rw [hg,hg2] at p
     obtain⟨a1,ha1,or1⟩:=r.addr hg
     obtain⟨a2,ha2,or2⟩:=r.addr hg2
     rw [hn] at ha1; cases ha1
     rw [hm] at ha2; cases ha2
     cases o with
     | lst xs =>
      cases o2 with
      | lst ys =>
       dsimp only at p
       obtain⟨vs,hH,q⟩:=or1
       obtain⟨ws,hH2,q2⟩:=or2
       by_cases z:xs.length+ys.length≤SZ
       ·rw [if_pos z] at p
        refine .inl (.inr ⟨an,am,vs,ws,rfl,rfl,hH,hH2,by rw [q.length,q2.length]; exact Nat.le_trans z JB,fun t ht=>p _ _ (μ++[t]) (QE ht) (r.push ht ⟨_,Qn,(q.append q2).mono (QE ht)⟩) (.ref ?_)⟩)
        rw [← r.len]; simp
       ·rw [if_neg z] at p; exact p.elim
      | _=>exact p.elim
     | _=>cases o2 <;> exact p.elim
  | _=>exact p.elim
 | _=>cases qy <;> exact p.elim
theorem Z9 (ha:PE3 ca X a ma) (hb:PE3 ca X b mb):PE3 ca X (.BinOp a .Add b pos) (mOp2 pAdd ma mb) :=
 Qfa (fun _ _=>((op_add.or Qjr).or Qle).or QhI) QhJ ha hb
theorem QdG {K:PySem.W.Frag} {C:Int->Int->Prop} {h:Int->Int->V} {f:D->D->G->Res D} (hf:∀ Φ σ i j g Q H μ,GRep K ca μ H g->Post K ca Φ σ Q H μ (f (.int i) (.int j) g)->C i j∧Q (h i j) H)
  (hn:∀ Φ σ x y g Q H μ,Post K ca Φ σ Q H μ (f x y g)->∃ i j,x=.int i∧y=.int j):Y3 K ca (rI C h) f:=by
 intro Φ σ H μ g x y dx dy Q r qx qy p
 obtain⟨i,j,rfl,rfl⟩:=hn Φ σ dx dy g Q H μ p
 cases qx
 cases qy
 obtain⟨c,q⟩:=hf Φ σ i j g Q H μ r p
 exact⟨i,j,rfl,rfl,c,q⟩
theorem Qew {K:PySem.W.Frag} {h:Int->Int->V} {f:D->D->G->Res D} (hf:∀ Φ σ i j g Q H μ,GRep K ca μ H g->Post K ca Φ σ Q H μ (f (.int i) (.int j) g)->Q (h i j) H)
  (hn:∀ Φ σ x y g Q H μ,Post K ca Φ σ Q H μ (f x y g)->∃ i j,x=.int i∧y=.int j):Y3 K ca (rI0 h) f:=by
 intro Φ σ H μ g x y dx dy Q r qx qy p
 obtain⟨i,j,rfl,rfl⟩:=hn Φ σ dx dy g Q H μ p
 cases qx
 cases qy
 exact⟨i,j,rfl,rfl,hf Φ σ i j g Q H μ r p⟩
theorem JR {K:PySem.W.Frag} {f:D->D->G->Res D} (h:∀ x y g,(∃ i j,x=D.int i∧y=D.int j)∨f x y g=.stuck) (Φ:XS) (σ:L2.St) (x y:D) (g:G) (Q:VK) (H:Hp) (μ:List Addr) (p:Post K ca Φ σ Q H μ (f x y g)):∃ i j,x=.int i∧y=.int j:=by
 rcases h x y g with z | z
 ·exact z
 ·rw [z] at p; exact p.elim
theorem Qgn (ha:PE3 ca X a ma) (hb:PE3 ca X b mb):PE3 ca X (.BinOp a .Sub b pos) (mOp2 pSub ma mb) :=
 Qfa (fun _ _=>QkT) (Qew (fun Φ σ i j g Q H μ r p=>p _ H μ .refl r (.int _)) (JR fun x y g=>by cases x <;> cases y <;> first | exact .inl ⟨_,_,rfl,rfl⟩ | exact .inr rfl)) ha hb
theorem Y7 (ha:PE3 ca X a ma) (hb:PE3 ca X b mb):PE3 ca X (.BinOp a .FloorDiv b pos) (mOp2 Z1 ma mb) :=
 Qfa (fun _ _=>Qji) (QdG (fun Φ σ i j g Q H μ r p=>by
  unfold Z1 at p
  by_cases z:0<j∧j<1073741824
  ·dsimp only at p; rw [if_pos z] at p; exact⟨z,p _ H μ .refl r (.int _)⟩
  ·dsimp only at p; rw [if_neg z] at p; exact p.elim) (JR fun x y g=>by cases x <;> cases y <;> first | exact .inl ⟨_,_,rfl,rfl⟩ | exact .inr rfl)) ha hb
theorem Yl (ha:PE3 ca X a ma) (hb:PE3 ca X b mb):PE3 ca X (.BinOp a .Mod b pos) (mOp2 pMod ma mb) :=
 Qfa (fun _ _=>QkV) (QdG (fun Φ σ i j g Q H μ r p=>by
  unfold pMod at p
  by_cases z:0<j
  ·dsimp only at p; rw [if_pos z] at p; exact⟨z,p _ H μ .refl r (.int _)⟩
  ·dsimp only at p; rw [if_neg z] at p; exact p.elim) (JR fun x y g=>by cases x <;> cases y <;> first | exact .inl ⟨_,_,rfl,rfl⟩ | exact .inr rfl)) ha hb
theorem QhK (ha:PE3 ca X a ma) (hb:PE3 ca X b mb):PE3 ca X (.BinOp a .Mult b pos) (mOp2 pMul ma mb) :=
 Qfa (fun _ _=>QkU) (fun Φ σ H μ g x y dx dy Q r qx qy p=>by
  unfold pMul at p
  cases qx with
  | int i =>
   cases qy with
   | int j =>
    dsimp only at p
    by_cases z:cM i∨cM j
    ·rw [if_pos z] at p; exact⟨i,j,rfl,rfl,z,p _ H μ .refl r (.int _)⟩
    ·rw [if_neg z] at p; exact p.elim
   | _=>exact p.elim
  | _=>cases qy <;> exact p.elim) ha hb
theorem Qfb (ha:PE3 ca X a ma):PE3 ca X (.UnaryOp .USub a pos) (mOp1 pNeg ma) :=
 r_un (fun _ _=>QkX) (fun Φ σ H μ g x dx Q r qx p=>by
  cases qx with
  | int i=>exact⟨i,rfl,p _ H μ .refl r (.int _)⟩
  | _=>exact p.elim) ha
theorem YS {K:PySem.W.Frag} (r:Int->Int->Bool):Y3 K ca (rI0 fun i j=>.bl (r i j)) (pCmp r) :=
 Qew (fun Φ σ i j g Q H μ r p=>p _ H μ .refl r (.bl _)) (JR fun x y g=>by cases x <;> cases y <;> first | exact .inl ⟨_,_,rfl,rfl⟩ | exact .inr rfl)
theorem r_gt (ha:PE3 ca X a ma) (hb:PE3 ca X b mb):PE3 ca X (.Compare a [.Gt] [b] pos) (mOp2 pGt ma mb):=Qjw (fun _ _=>Qk1) (YS _) ha hb (JQ b)
theorem Qlq (ha:PE3 ca X a ma) (hb:PE3 ca X b mb):PT3 ca X (.Compare a [.Lt] [b] pos) (Qf (mOp2 pLt ma mb)):=JA (fun _ _=>QkZ) (YS _) ha hb (JQ b)
theorem Qmz (ha:PE3 ca X a ma) (hb:PE3 ca X b mb):PT3 ca X (.Compare a [.LtE] [b] pos) (Qf (mOp2 pLe ma mb)):=JA (fun _ _=>Qk0) (YS _) ha hb (JQ b)
theorem QjB (ha:PE3 ca X a ma) (hb:PE3 ca X b mb):PT3 ca X (.Compare a [.Gt] [b] pos) (Qf (mOp2 pGt ma mb)):=JA (fun _ _=>Qk1) (YS _) ha hb (JQ b)
theorem Qlr (ha:PE3 ca X a ma) (hb:PE3 ca X b mb):PT3 ca X (.Compare a [.GtE] [b] pos) (Qf (mOp2 pGe ma mb)):=JA (fun _ _=>Qmp) (YS _) ha hb (JQ b)
end
end L3
end
section
namespace L3
open PySem PySem.Spec PyProof.Rows L2
section
variable {ca:Nat->Addr}
theorem Qgo {K:PySem.W.Frag}:Y3 K ca rEq pEq:=by
 intro Φ σ H μ g x y dx dy Q r qx qy p
 unfold pEq eqT at p
 cases qx with
 | int i =>
  cases qy with
  | int j=>exact⟨rfl,by rw [QbZ]; exact p _ H μ .refl r (.bl _)⟩
  | _=>exact p.elim
 | str i =>
  cases qy with
  | str j=>exact⟨rfl,by rw [Qb0]; exact p _ H μ .refl r (.bl _)⟩
  | _=>exact p.elim
 | bl i =>
  cases qy with
  | bl j=>exact⟨rfl,by rw [Qek]; exact p _ H μ .refl r (.bl _)⟩
  | _=>exact p.elim
 | _=>cases qy <;> exact p.elim
theorem JS {K:PySem.W.Frag} {μ:List Addr} {H:Hp}:∀ {vs:List V} {ds:List D} {ns:List Int},Dens K μ H vs ds->Qaz ds=some ns->vs=ns.map V.int
 | _,_,ns,.nil,h=>by cases h; rfl
 | _,_,ns,.cons (ds:=ds) h1 h2,h=>by
  cases h1 with
  | int i =>
   unfold Qaz at h
   cases hr:Qaz ds with
   | none=>rw [hr] at h; cases h
   | some ms=>rw [hr] at h; cases h; rw [List.map_cons,JS h2 hr]
  | _=>cases h
noncomputable def rNeL (K:PySem.W.Frag):R2:=fun x y H Q=>∃(a c:Addr) (is js:List Int),x=.ref a∧y=.ref c∧SqL K H a (is.map V.int)∧SqL K H c (js.map V.int)∧Q (.bl (!decide (is=js))) H
theorem Qls {X:Cx} (hu:X.A.units+16<cLine):OpR X (compareOp .NotEq) (rNeL X.K):=by
 intro pins s σ H x y v u Q I rx ry h
 obtain⟨a,c,is,js,rfl,rfl,h1,h2,q⟩:=h
 cases rx; cases ry
 obtain⟨us,r1,p1,_⟩:=I.list h1
 obtain⟨ts,r2,p2,_⟩:=I.list h2
 have l1:us.length=is.length:=by rw [← r1.length,List.length_map]
 have l2:ts.length=js.length:=by rw [← r2.length,List.length_map]
 have key:SeqAt.RcNeAt X.A s (.ref a) (.ref c) (!decide (is=js)):=by
  by_cases hl:is.length=js.length
  ·have k:=SeqAt.RcNeAt.lists (A:=X.A) p1.isList p2.isList (by simp only [List.size_toArray]; omega) (by omega) (e:=fun j=>is[j]? == js[j]?) (fun j h1 h2=>by
    have z1:j<us.length:=by simpa using h1
    have z2:j<ts.length:=by simpa using h2
    obtain⟨u,hu,t,ru⟩:=r1.get (i:=j) (x:=V.int (is[j]'(by omega))) (by rw [List.getElem?_map,List.getElem?_eq_getElem (by omega)]; rfl)
    obtain⟨u',hu',t',ru'⟩:=r2.get (i:=j) (x:=V.int (js[j]'(by omega))) (by rw [List.getElem?_map,List.getElem?_eq_getElem (by omega)]; rfl)
    have w1:us.toArray[j]=Value.int (is[j]'(by omega)) t:=by
     have:us[j]=u:=by simpa [List.getElem?_eq_getElem z1] using hu
     simpa [ru] using this
    have w2:ts.toArray[j]=Value.int (js[j]'(by omega)) t':=by
     have:ts[j]=u':=by simpa [List.getElem?_eq_getElem z2] using hu'
     simpa [ru'] using this
    rw [w1,w2,List.getElem?_eq_getElem (show j<is.length by omega),List.getElem?_eq_getElem (show j<js.length by omega)]
    exact SeqAt.EqAt.int_int _ _ _ _)
   have e:(List.range us.toArray.size).all (fun j=>is[j]? == js[j]?)=decide (is=js):=by
    rw [Bool.eq_iff_iff,List.all_eq_true,decide_eq_true_eq]
    refine⟨fun h=>List.ext_getElem? fun j=>?_,fun h j _=>by rw [h]; simp⟩
    by_cases hj:j<is.length
    ·exact beq_iff_eq.mp (h j (List.mem_range.mpr (by simp only [List.size_toArray]; omega)))
    ·rw [List.getElem?_eq_none (by omega),List.getElem?_eq_none (by omega)]
   rw [← e]
   exact k
  ·have e:decide (is=js)=false:=decide_eq_false fun z=>hl (by rw [z])
   rw [e]
   exact SeqAt.RcNeAt.lists_lengths p1.isList p2.isList (by simp only [List.size_toArray,l1,l2]; simpa using hl) (by omega)
 exact key _ _ _ _ ⟨.bl _,H,I,rfl,q⟩
theorem QjC {K:PySem.W.Frag}:Y3 K ca (fun x y H Q=>rNe x y H Q∨rNeL K x y H Q) pNe:=by
 intro Φ σ H μ g x y dx dy Q r qx qy p
 unfold pNe neT at p
 cases qx with
 | non =>
  cases qy with
  | non=>exact .inl ⟨rfl,p _ H μ .refl r (.bl _)⟩
  | int j=>exact .inl ⟨rfl,p _ H μ .refl r (.bl _)⟩
  | _=>exact p.elim
 | int i =>
  cases qy with
  | int j=>exact .inl ⟨rfl,by rw [QbZ]; exact p _ H μ .refl r (.bl _)⟩
  | non=>exact .inl ⟨rfl,p _ H μ .refl r (.bl _)⟩
  | _=>exact p.elim
 | str i =>
  cases qy with
  | str j=>exact .inl ⟨rfl,by rw [Qb0]; exact p _ H μ .refl r (.bl _)⟩
  | _=>exact p.elim
 | bl i =>
  cases qy with
  | bl j=>exact .inl ⟨rfl,by rw [Qek]; exact p _ H μ .refl r (.bl _)⟩
  | _=>exact p.elim
 | @ref n a hn =>
  cases qy with
  | @ref m c hm =>
   dsimp only at p
   cases hg:g[n]? with
   | none=>rw [hg] at p; exact p.elim
   | some o1 =>
    cases hg2:g[m]? with
    | none=>rw [hg,hg2] at p; cases o1 <;> exact p.elim
    | some o2 =>
     rw [hg,hg2] at p
     obtain⟨b1,hb1,ob1⟩:=r.addr hg
     obtain⟨b2,hb2,ob2⟩:=r.addr hg2
     rw [hn] at hb1; cases hb1
     rw [hm] at hb2; cases hb2
     cases o1 with
     | lst xs =>
      cases o2 with
      | lst ys =>
       obtain⟨vs,hH1,q1⟩:=ob1
       obtain⟨ws,hH2,q2⟩:=ob2
       dsimp only at p
       cases e1:Qaz xs with
       | none=>rw [e1] at p; exact p.elim
       | some is =>
        cases e2:Qaz ys with
        | none=>rw [e1,e2] at p; exact p.elim
        | some js =>
         rw [e1,e2] at p
         have z1:=JS q1 e1
         have z2:=JS q2 e2
         subst z1 z2
         exact .inr ⟨a,c,is,js,rfl,rfl,.of hH1,.of hH2,p _ H μ .refl r (.bl _)⟩
      | _=>exact p.elim
     | _=>cases o2 <;> exact p.elim
  | _=>exact p.elim
 | _=>cases qy <;> exact p.elim
end
section
variable {X:Cx} {ca:Nat->Addr} {a b e:Expr} {ma mb me:ME} {pos p:Pos} {k:Nat}
theorem r_eq (_:Room k X.A) (ha:PE3 ca X a ma) (hb:PE3 ca X b mb):PE3 ca X (.Compare a [.Eq] [b] pos) (mOp2 pEq ma mb):=Qjw (fun _ _=>QkY) Qgo ha hb (JQ b)
theorem Qae (_:Room k X.A) (ha:PE3 ca X a ma) (hb:PE3 ca X b mb):PT3 ca X (.Compare a [.Eq] [b] pos) (Qf (mOp2 pEq ma mb)):=JA (fun _ _=>QkY) Qgo ha hb (JQ b)
theorem hu16 {A:Around} (hr:Room k A):A.units+16<cLine:=by have:=hr.units; omega
theorem Qfc (hr:Room k X.A) (ha:PE3 ca X a ma) (hb:PE3 ca X b mb):PT3 ca X (.Compare a [.NotEq] [b] pos) (Qf (mOp2 pNe ma mb)):=JA (fun pn Φ=>op_ne.or (Qls (X:=xat X ca pn Φ) (hu16 hr))) QjC ha hb (JQ b)
theorem QhL {K:PySem.W.Frag} {μ:List Addr} {H:Hp} {x:V} {d:D} (q:Den K μ H x d):decide (x=.non)=Qjv d:=by cases q <;> simp [Qjv]
theorem QjD {K:PySem.W.Frag}:Y3 K ca (fun x y H Q=>y=.non∧Q (.bl (decide (x=.non))) H) pIs:=by
 intro Φ σ H μ g x y dx dy Q r qx qy p
 cases qy with
 | non=>exact⟨rfl,p _ H μ .refl r (by rw [QhL qx]; exact .bl _)⟩
 | _=>exact p.elim
theorem Qgp (ha:PE3 ca X a ma) (hb:PE3 ca X b mb):PT3 ca X (.Compare a [.Is] [b] pos) (Qf (mOp2 pIs ma mb)):=JA (fun _ _=>Qk2) QjD ha hb (JQ b)
theorem Qca {K:PySem.W.Frag} {μ:List Addr} {H:Hp} {vs:List V} {ds:List D} {i:Int} {d:D} (q:Dens K μ H vs ds) (h:atD ds i=some d):∃ v,atI vs i=some v∧Den K μ H v d:=by
 unfold atD at h
 cases hj:ixD ds.length i with
 | none=>rw [hj] at h; cases h
 | some j =>
  rw [hj] at h
  obtain⟨v,h1,h2⟩:=q.get (show ds[j]?=some d from h)
  refine⟨v,?_,h2⟩
  unfold atI
  rw [q.length,show ixN ds.length i=some j from hj]
  exact h1
theorem QjE {K:PySem.W.Frag}:Y3 K ca (rIx K) pIx:=by
 intro Φ σ H μ g x y dx dy Q r qx qy p
 unfold pIx at p
 cases qx with
 | tup ht hs =>
  cases qy with
  | int i =>
   dsimp only at p
   rename_i a vs ds
   cases h:atD ds i with
   | none=>rw [h] at p; exact p.elim
   | some d =>
    rw [h] at p
    obtain⟨v,h1,h2⟩:=Qca hs h
    exact .inr (.inl ⟨a,vs,i,v,rfl,rfl,ht,h1,p v H μ .refl r h2⟩)
  | _=>exact p.elim
 | fl ht hs =>
  cases qy with
  | int i =>
   dsimp only at p
   rename_i a vs ds
   cases h:atD ds i with
   | none=>rw [h] at p; exact p.elim
   | some d =>
    rw [h] at p
    obtain⟨v,h1,h2⟩:=Qca hs h
    exact .inl ⟨a,vs,i,v,rfl,rfl,ht.sq,h1,p v H μ .refl r h2⟩
  | _=>exact p.elim
 | @ref n a hn =>
  cases qy with
  | int i =>
   dsimp only at p
   cases hg:g[n]? with
   | none=>rw [hg] at p; exact p.elim
   | some o =>
    rw [hg] at p
    obtain⟨a',ha',ob⟩:=r.addr hg
    rw [hn] at ha'; cases ha'
    cases o with
    | lst ds =>
     obtain⟨vs,hH,hs⟩:=ob
     dsimp only at p
     cases h:atD ds i with
     | none=>rw [h] at p; exact p.elim
     | some d =>
      rw [h] at p
      obtain⟨v,h1,h2⟩:=Qca hs h
      exact .inl ⟨a,vs,i,v,rfl,rfl,.of hH,h1,p v H μ .refl r h2⟩
    | _=>exact p.elim
  | _=>exact p.elim
 | str s =>
  cases qy with
  | int i =>
   dsimp only at p
   by_cases z:s.length≤SZ
   ·rw [if_pos z] at p
    cases h:atD s.cps.toList i with
    | none=>rw [h] at p; exact p.elim
    | some c =>
     rw [h] at p
     exact .inr (.inr ⟨s,i,c,rfl,rfl,Nat.le_trans z JB,h,p _ H μ .refl r (.str _)⟩)
   ·rw [if_neg z] at p; exact p.elim
  | _=>exact p.elim
 | _=>cases qy <;> exact p.elim
theorem Qr (ha:PE3 ca X a ma) (hb:PE3 ca X b mb) (hs:Qb2 b:=by exact fun _ _=>rfl):PE3 ca X (.Subscript a b pos) (mOp2 pIx ma mb):=r_ix (fun _ _=>Qla) QjE ha hb hs
theorem QjF {x:Str} {id:String} {r:List V->Hp->VK->Prop} {f:D->G->Res D} (hc:∀ pn Φ,Qac (xat X ca pn Φ) (.builtin id) r) (hm:X.mg x=none) (hv:bootBuiltins x=some (.builtin id))
  (hp:∀(Φ:XS) (σ:L2.St) (H:Hp) (μ:List Addr) (g:G) (y:V) (d:D) (Q:VK),GRep X.K ca μ H g->Den X.K μ H y d->Post X.K ca Φ σ Q H μ (f d g)->r [y] H Q) (he:PE3 ca X e me) (hg:Gl X x) (hn:x ≠ "__name__") (hdb:(x == ("__debug__" : Str))=false)
  (hs:starEach [e] X.env=[(false,eval e X.env)]) (hpl:(backTo pos (starEach [] X.env)).any (·.1)=false):PE3 ca X (.Call (.Name x p) [e] [] pos) (mOp1 f me) :=
 fun pn Φ=>Q7 (QaF (X:=xat X ca pn Φ) (hc pn Φ) hg hm hv (YY he Qk hs pn Φ) hn hdb hs hpl) fun σ H Q hQ=>by
  obtain⟨σ3,g,μ,R,q⟩:=hQ
  refine⟨σ3,g,μ,R,?_⟩
  unfold mOp1 at q
  unfold Qa mNil
  cases hm:me σ3 g with
  | raise _ _=>rw [hm] at q; exact q
  | stuck=>rw [hm] at q; exact q.elim
  | ok d g1 =>
   rw [hm,Res.bind_ok] at q
   rw [Res.bind_ok,Res.bind_ok]
   intro vs H1 μ1 e1 r1 q1
   cases q1 with
   | cons h1 h2 =>
    cases h2
    exact hp Φ σ H1 μ1 g1 _ d Q r1 h1 (q.go e1)
end
end L3
end
section
namespace L3
open PySem PySem.Spec PyProof.Rows L2
section
variable {X:Cx} {ca:Nat->Addr} {a b e o:Expr} {ma mb me mo:ME} {pos p apos:Pos} {k:Nat}
theorem r_ty {x:Str} {T:String} {r:List V->Hp->VK->Prop} {f:D->G->Res D} (hc:∀ pn Φ,Qac (xat X ca pn Φ) (.type T) r) (hm:X.mg x=none) (hv:bootBuiltins x=some (.type T))
  (hp:∀(Φ:XS) (σ:L2.St) (H:Hp) (μ:List Addr) (g:G) (y:V) (d:D) (Q:VK),GRep X.K ca μ H g->Den X.K μ H y d->Post X.K ca Φ σ Q H μ (f d g)->r [y] H Q) (he:PE3 ca X e me) (hg:Gl X x) (hn:x ≠ "__name__") (hdb:(x == ("__debug__" : Str))=false)
  (hs:starEach [e] X.env=[(false,eval e X.env)]) (hpl:(backTo pos (starEach [] X.env)).any (·.1)=false):PE3 ca X (.Call (.Name x p) [e] [] pos) (mOp1 f me) :=
 fun pn Φ=>Q7 (QfZ (X:=xat X ca pn Φ) (hc pn Φ) hg hm hv (YY he Qk hs pn Φ) hn hdb hs hpl) fun σ H Q hQ=>by
  obtain⟨σ3,g,μ,R,q⟩:=hQ
  refine⟨σ3,g,μ,R,?_⟩
  unfold mOp1 at q
  unfold Qa mNil
  cases hm:me σ3 g with
  | raise _ _=>rw [hm] at q; exact q
  | stuck=>rw [hm] at q; exact q.elim
  | ok d g1 =>
   rw [hm,Res.bind_ok] at q
   rw [Res.bind_ok,Res.bind_ok]
   intro vs H1 μ1 e1 r1 q1
   cases q1 with
   | cons h1 h2 =>
    cases h2
    exact hp Φ σ H1 μ1 g1 _ d Q r1 h1 (q.go e1)
theorem Ym (hm:X.mg "len" = none) (he:PE3 ca X e me) (hg:Gl X "len":=by rfl) (hs:starEach [e] X.env=[(false,eval e X.env)]:=by rfl) (hpl:(backTo pos (starEach [] X.env)).any (·.1)=false:=by rfl) :
  PE3 ca X (.Call (.Name "len" p) [e] [] pos) (mOp1 pLen me) :=
 QjF (r:=fun xs H Q=>∃ p ys,xs=[V.ref p]∧(SqL X.K H p ys∨SqT X.K H p ys)∧Q (V.int (ys.length:Int)) H) (fun _ _=>QcL) hm boot_len (fun Φ σ H μ g y d Q r q pp=>by
  unfold pLen at pp
  cases q with
  | @tup t vs ds ht hs=>exact⟨t,vs,rfl,.inr ht,pp _ H μ .refl r (by rw [hs.length]; exact .int _)⟩
  | @fl t vs ds ht hs=>exact⟨t,vs,rfl,.inl ht.sq,pp _ H μ .refl r (by rw [hs.length]; exact .int _)⟩
  | @ref n t hn =>
   dsimp only at pp
   cases hgn:g[n]? with
   | none=>rw [hgn] at pp; exact pp.elim
   | some ob =>
    rw [hgn] at pp
    obtain⟨t',ht',orp⟩:=r.addr hgn
    rw [hn] at ht'; cases ht'
    cases ob with
    | lst ds=>obtain⟨vs,hH,q⟩:=orp; exact⟨t,vs,rfl,.inl (.of hH),pp _ H μ .refl r (by rw [q.length]; exact .int _)⟩
    | _=>exact pp.elim
  | _=>exact pp.elim) he hg (by decide) (by decide) hs hpl
theorem Qcb (hm:X.mg "tuple" = none) (he:PE3 ca X e me) (hg:Gl X "tuple":=by rfl) (hs:starEach [e] X.env=[(false,eval e X.env)]:=by rfl) (hpl:(backTo pos (starEach [] X.env)).any (·.1)=false:=by rfl) :
  PE3 ca X (.Call (.Name "tuple" p) [e] [] pos) (mOp1 Z7 me) :=
 r_ty (r:=fun xs H Q=>∃ p ys,xs=[V.ref p]∧((SqL X.K H p ys∧∀ l,H l=none->Q (.ref l) (upd H l (.tup ys)))∨(SqT X.K H p ys∧Q (.ref p) H))) (fun _ _=>Qb5) hm boot_tuple (fun Φ σ H μ g y d Q r q pp=>by
  unfold Z7 at pp
  cases q with
  | @tup t vs ds ht hs=>exact⟨t,vs,rfl,.inr ⟨ht,pp _ H μ .refl r (.tup ht hs)⟩⟩
  | @fl t vs ds ht hs=>exact⟨t,vs,rfl,.inl ⟨ht.sq,fun l hl=>pp _ _ μ (Q8 hl) (r.new hl) (.tup (.of Qn) (hs.mono (Q8 hl)))⟩⟩
  | @ref n t hn =>
   dsimp only at pp
   cases hgn:g[n]? with
   | none=>rw [hgn] at pp; exact pp.elim
   | some ob =>
    rw [hgn] at pp
    obtain⟨t',ht',orp⟩:=r.addr hgn
    rw [hn] at ht'; cases ht'
    cases ob with
    | lst ds=>obtain⟨vs,hH,q⟩:=orp; exact⟨t,vs,rfl,.inl ⟨.of hH,fun l hl=>pp _ _ μ (Q8 hl) (r.new hl) (.tup (.of Qn) (q.mono (Q8 hl)))⟩⟩
    | _=>exact pp.elim
  | _=>exact pp.elim) he hg (by decide) (by decide) hs hpl
theorem Qlt (hm:X.mg "list" = none) (he:PE3 ca X e me) (hg:Gl X "list":=by rfl) (hs:starEach [e] X.env=[(false,eval e X.env)]:=by rfl) (hpl:(backTo pos (starEach [] X.env)).any (·.1)=false:=by rfl) :
  PE3 ca X (.Call (.Name "list" p) [e] [] pos) (mOp1 QhE me) :=
 r_ty (r:=fun xs H Q=>∃ p ys,xs=[V.ref p]∧(SqL X.K H p ys∨SqT X.K H p ys)∧∀ l,H l=none->Q (.ref l) (upd H l (.lst ys))) (fun _ _=>QcM) hm boot_list (fun Φ σ H μ g y d Q r q pp=>by
  have el:∀ l:Addr,(μ++[l])[g.length]?=some l:=fun l=>by rw [← r.len]; simp
  unfold QhE at pp
  cases q with
  | @fl t vs ds ht hs=>exact⟨t,vs,rfl,.inl ht.sq,fun l hl=>pp _ _ (μ++[l]) (QE hl) (r.push hl ⟨vs,Qn,hs.mono (QE hl)⟩) (.ref (el l))⟩
  | @tup t vs ds ht hs=>exact⟨t,vs,rfl,.inr ht,fun l hl=>pp _ _ (μ++[l]) (QE hl) (r.push hl ⟨vs,Qn,hs.mono (QE hl)⟩) (.ref (el l))⟩
  | @ref n t hn =>
   dsimp only at pp
   cases hgn:g[n]? with
   | none=>rw [hgn] at pp; exact pp.elim
   | some ob =>
    rw [hgn] at pp
    obtain⟨t',ht',orp⟩:=r.addr hgn
    rw [hn] at ht'; cases ht'
    cases ob with
    | lst ds=>obtain⟨vs,hH,q⟩:=orp; exact⟨t,vs,rfl,.inl (.of hH),fun l hl=>pp _ _ (μ++[l]) (QE hl) (r.push hl ⟨vs,Qn,q.mono (QE hl)⟩) (.ref (el l))⟩
    | _=>exact pp.elim
  | _=>exact pp.elim) he hg (by decide) (by decide) hs hpl
theorem Jj (ho:PE3 ca X o mo) (he:PE3 ca X e me) (hbase:attributeBase o "append" X.env (eval o X.env)=eval o X.env:=by rfl)
  (hfew:((backTo pos (starEach [e] X.env)).all (fun x=>!x.1) && (backToKw pos (keywordEach [] X.env)).all (fun x=>x.1.isSome) && decide ([e].length+([]:List Keyword).length+(if ([]:List Keyword).isEmpty then 0 else 1)<30))=true:=by rfl)
  (hline:(apos.endLine == pos.line)=true:=by rfl) (hs:starEach [e] X.env=(false,eval e X.env)::starEach [] X.env:=by rfl) (hplain:(backTo pos (starEach [] X.env)).any (·.1)=false:=by rfl) :
  PE3 ca X (.Call (.Attribute o "append" apos) [e] [] pos) (ZO mo me) :=
 fun pn Φ=>Q7 (Qjt (X:=xat X ca pn Φ) PySem.F.plainAttrs_list PySem.F.slot_list_append PySem.F.type_list_append Qf3 (ho pn Φ) (YY he Qk hs pn Φ) hbase hfew hline hs hplain) fun σ H Q ⟨σ3,g,μ,R,q⟩=>Q9 (Y1 R q) fun x H1 hQ=>by
  obtain⟨d,g1,μ1,e1,R1,q1,p1⟩:=hQ
  cases q1 with
  | @ref n t hn =>
   dsimp only at p1
   cases hgn:g1[n]? with
   | none=>rw [hgn] at p1; exact p1.elim
   | some ob =>
    rw [hgn] at p1
    obtain⟨t',ht',orp⟩:=R1.g.addr hgn
    rw [hn] at ht'; cases ht'
    cases ob with
    | lst ds0 =>
     obtain⟨vs0,hH0,_⟩:=orp
     dsimp only at p1
     refine⟨.inl ⟨rfl,_,.of hH0⟩,σ3,g1,μ1,R1,?_⟩
     unfold Qa mNil
     cases hm:me σ3 g1 with
     | raise _ _=>rw [hm] at p1; exact p1
     | stuck=>rw [hm] at p1; exact p1.elim
     | ok y g2 =>
      rw [hm,Res.bind_ok] at p1
      rw [Res.bind_ok,Res.bind_ok]
      intro vs H2 μ2 e2 r2 q2
      cases q2 with
      | @cons vy _ _ _ h1 h2 =>
       cases h2
       cases hg2:g2[n]? with
       | none=>rw [hg2] at p1; exact p1.elim
       | some ob2 =>
        rw [hg2] at p1
        obtain⟨t',ht',orp⟩:=r2.addr hg2
        rw [e2.at hn] at ht'; cases ht'
        cases ob2 with
        | lst ds =>
         obtain⟨ws,hH,qs⟩:=orp
         dsimp only at p1
         by_cases z:ds.length<SZ
         ·rw [if_pos z] at p1
          have ex:Ext X.K μ2 H2 μ2 (upd H2 t (.lst (ws++[vy]))):=Jz hH (by intro _ z; cases z) (by intro _ _ z; cases z)
          refine⟨t,ws,_,rfl,rfl,hH,by rw [qs.length]; exact Nat.lt_of_lt_of_le z JB,p1 _ _ μ2 (e2.trans ex) ?_ .non⟩
          exact r2.set (e2.at hn) hH (by intro _ z; cases z) (by intro _ _ z; cases z) ⟨_,Qn,(qs.mono ex).append (.cons (h1.mono ex) .nil)⟩
         ·rw [if_neg z] at p1; exact p1.elim
        | _=>exact p1.elim
    | _=>exact p1.elim
  | _=>exact p1.elim
theorem Dens.dropLast {K:PySem.W.Frag} {μ:List Addr} {H:Hp} {vs:List V} {ds:List D} (h:Dens K μ H vs ds):Dens K μ H vs.dropLast ds.dropLast:=by
 rw [List.dropLast_eq_take,List.dropLast_eq_take,h.length]
 exact h.take _
theorem QjG (ho:PE3 ca X o mo) (hbase:attributeBase o "pop" X.env (eval o X.env)=eval o X.env:=by rfl) (hline:(apos.endLine == pos.line)=true:=by rfl):PE3 ca X (.Call (.Attribute o "pop" apos) [] [] pos) (mOp1 pPop mo) :=
 fun pn Φ=>Q7 (Qlc (X:=xat X ca pn Φ) PySem.F.plainAttrs_list PySem.F.slot_list_pop PySem.F.type_list_pop Qld (ho pn Φ) hbase hline) fun σ H Q ⟨σ3,g,μ,R,q⟩=>Q9 (Y1 R q) fun x H1 hQ=>by
  obtain⟨d,g1,μ1,e1,R1,q1,p1⟩:=hQ
  unfold pPop at p1
  cases q1 with
  | @ref n t hn =>
   dsimp only at p1
   cases hgn:g1[n]? with
   | none=>rw [hgn] at p1; exact p1.elim
   | some ob =>
    rw [hgn] at p1
    obtain⟨t',ht',orp⟩:=R1.g.addr hgn
    rw [hn] at ht'; cases ht'
    cases ob with
    | lst ds =>
     obtain⟨ws,hH,qs⟩:=orp
     dsimp only at p1
     cases hl:ds[ds.length - 1]? with
     | none=>rw [hl] at p1; exact p1.elim
     | some y =>
      rw [hl] at p1
      obtain⟨v,h1,h2⟩:=qs.get hl
      have ex:Ext X.K μ1 H1 μ1 (upd H1 t (.lst ws.dropLast)):=Jz hH (by intro _ z; cases z) (by intro _ _ z; cases z)
      refine⟨.inl ⟨rfl,_,.of hH⟩,t,ws,v,rfl,rfl,hH,by rw [qs.length]; exact h1,p1 v _ μ1 ex ?_ (h2.mono ex)⟩
      exact R1.g.set hn hH (by intro _ z; cases z) (by intro _ _ z; cases z) ⟨_,Qn,(qs.mono ex).dropLast⟩
    | _=>exact p1.elim
  | _=>exact p1.elim
end
end L3
end
section
namespace L3
open PySem PySem.Spec PyProof.Rows L2
noncomputable def IsIt (b:Bool) (h:Heap) (i l:Addr) (k:Nat):Prop:=if b=true then h.IsListIter i l k else h.IsTupleIter i l k
noncomputable def IsSq (b:Bool) (h:Heap) (l:Addr) (xs:Array Value):Prop:=if b=true then h.IsList l xs else h.IsTuple l xs
theorem IsIt.at {b:Bool} {h h':Heap} {i l:Addr} {k:Nat} (x:IsIt b h i l k) (hk:∀ o,h.get? i=some o->h'.get? i=some o):IsIt b h' i l k:=by
 cases b
 ·exact Heap.IsTupleIter.at (show h.IsTupleIter i l k from x) hk
 ·exact Heap.IsListIter.at (show h.IsListIter i l k from x) hk
theorem IsSq.at {b:Bool} {h h':Heap} {l:Addr} {xs:Array Value} (x:IsSq b h l xs) (hk:∀ o,h.get? l=some o->h'.get? l=some o):IsSq b h' l xs:=by
 cases b
 ·obtain⟨o,e,c⟩:=(show h.IsTuple l xs from x); exact⟨o,hk o e,c⟩
 ·obtain⟨o,e,c⟩:=(show h.IsList l xs from x); exact⟨o,hk o e,c⟩
theorem IsIt.lt {b:Bool} {h:Heap} {i l:Addr} {k:Nat} (x:IsIt b h i l k):i<h.objs.size:=by
 cases b
 ·obtain⟨o,e,_⟩:=(show h.IsTupleIter i l k from x); exact Heap.lt_size e
 ·obtain⟨o,e,_⟩:=(show h.IsListIter i l k from x); exact Heap.lt_size e
theorem IsIt.rec {b:Bool} {h:Heap} {i l:Addr} {k:Nat} (x:IsIt b h i l k):∃ o,h.get? i=some o∧∀ v,o.data≠.cell v:=by
 cases b
 ·obtain⟨o,e,c,d⟩:=(show h.IsTupleIter i l k from x); exact⟨o,e,fun v z=>by rw [d] at z; cases z⟩
 ·obtain⟨o,e,c,d⟩:=(show h.IsListIter i l k from x); exact⟨o,e,fun v z=>by rw [d] at z; cases z⟩
theorem IsSq.lt {b:Bool} {h:Heap} {l:Addr} {xs:Array Value} (x:IsSq b h l xs):l<h.objs.size:=by
 cases b
 ·obtain⟨o,e,_⟩:=(show h.IsTuple l xs from x); exact Heap.lt_size e
 ·obtain⟨o,e,_⟩:=(show h.IsList l xs from x); exact Heap.lt_size e
section
variable {prog:Program} {w:World} {A:Around} {E:Value->Shared->Prop} {s:Shared}
theorem Qfd {it t:Addr} {i:Nat} {items:Array Value} {x:Value} {Q:Value->Shared->Prop} (hit:s.heap.IsTupleIter it t i) (ht:s.heap.IsTuple t items) (hx:items[i]?=some x) (hQ:∀ h',h'.IsTupleIter it t (i+1)->Heap.SameBut it s.heap h'->Q x { s with heap:=h' }) :
  wpAny (model prog w) A (Builtin.SmallTypes.nextOf (.ref it)) Q E s:=by
 obtain⟨o,ho,hc,hd⟩:=id hit; obtain⟨ol,hol,_,nl,hdl⟩:=ht; unfold Builtin.SmallTypes.nextOf
 refine wpAny_bind (wpAny_callSpecial?_slot (name:=Str.ofString "__next__") hit.typeIs F.slot_tuple_iterator_next (wpAny_call_entry F.slot_tuple_iterator_next hit.typeIs F.entry_tuple_iterator_next ?_ (F.args_tuple_iterator_next_1 _)))
 show wpAny _ _ (field (.ref it) 0 >>= _) _ _ s; refine wpAny_bind (wpAny_field ho hd (x:=.ref t) rfl ?_)
 show wpAny _ _ (if (Value.ref t == Value.none)=true then _ else _) _ _ s; rw [if_neg (show ¬ ((Value.ref t == Value.none)=true) from Bool.false_ne_true)]
 show wpAny _ _ (field (.ref it) 1 >>= _) _ _ s; refine wpAny_bind (wpAny_field ho hd (x:=.int i 0) rfl ?_)
 show wpAny _ _ (seqItems? (.ref t) >>= _) _ _ s; refine wpAny_bind (wpAny_seqItems hol hdl ?_); simp only [Int.toNat_natCast,hx]
 refine wpAny_bind (wpAny_setField ho hd (by simp) (wpAny_pure ⟨x,rfl,wpAny_pure (hQ _ ⟨_,Heap.get?_update_self _ ho (Obj.isFreed_of_fields (Obj.data_mapFields hd _)),(Obj.cls_mapFields ..).trans hc,by rw [Obj.data_mapFields hd]; simp [rawInt]⟩ (Heap.SameBut.update ..))⟩))
theorem Qcc {it t:Addr} {i:Nat} {items:Array Value} {Q:Value->Shared->Prop} (hh:A.handled=none) (hit:s.heap.IsTupleIter it t i) (ht:s.heap.IsTuple t items) (hx:items[i]?=none)
  (hE:∀ h' e,Heap.ExtBut it s.heap h'->(∃ o,h'.get? e=some o∧o.cls=.type "StopIteration")->E (.ref e) { s with heap:=h' }):wpAny (model prog w) A (Builtin.SmallTypes.nextOf (.ref it)) Q E s:=by
 obtain⟨o,ho,hc,hd⟩:=id hit; obtain⟨ol,hol,_,nl,hdl⟩:=ht; unfold Builtin.SmallTypes.nextOf
 refine wpAny_bind (wpAny_callSpecial?_slot (name:=Str.ofString "__next__") hit.typeIs F.slot_tuple_iterator_next (wpAny_call_entry F.slot_tuple_iterator_next hit.typeIs F.entry_tuple_iterator_next ?_ (F.args_tuple_iterator_next_1 _)))
 show wpAny _ _ (field (.ref it) 0 >>= _) _ _ s; refine wpAny_bind (wpAny_field ho hd (x:=.ref t) rfl ?_)
 show wpAny _ _ (if (Value.ref t == Value.none)=true then _ else _) _ _ s; rw [if_neg (show ¬ ((Value.ref t == Value.none)=true) from Bool.false_ne_true)]
 show wpAny _ _ (field (.ref it) 1 >>= _) _ _ s; refine wpAny_bind (wpAny_field ho hd (x:=.int i 0) rfl ?_)
 show wpAny _ _ (seqItems? (.ref t) >>= _) _ _ s; refine wpAny_bind (wpAny_seqItems hol hdl ?_); simp only [Int.toNat_natCast,hx]
 refine wpAny_bind (wpAny_rule (wpAny_bind (wpAny_setField ho hd (by simp) ?_)))
 show wpAny _ _ (newExc (.type "StopIteration") [] >>= _) _ _ _; refine wpAny_bind ?_; simp only [newExc,newTuple]; refine wpAny_bind (wpAny_newObj_type ?_ (by size_fits))
 refine wpAny_bind (m:=firstArgMember _ _) (wpAny_of_eq (a:=Value.none) (by first | rfl | (simp only [firstArgMember]; rfl)) ?_); refine wpAny_newObj_type ?_ (by size_fits); simp only [raiseNew]
 refine wpAny_bind (wpAny_handled ?_); (first | rw [show A.in1.handled=none from hh] | rw [hh]); refine wpAny_bind (wpAny_pure (wpAny_throw ?_))
 exact hE _ _ (((Heap.SameBut.update ..).extBut.push _).push _) ⟨_,Heap.get?_push_size _ rfl,rfl⟩
theorem Qgq {b:Bool} {it l:Addr} {i:Nat} {xs:Array Value} {x:Value} {Q:Value->Shared->Prop} (hit:IsIt b s.heap it l i) (hl:IsSq b s.heap l xs) (hx:xs[i]?=some x) (hQ:∀ h',IsIt b h' it l (i+1)->Heap.SameBut it s.heap h'->Q x { s with heap:=h' }) :
  wpAny (model prog w) A (Builtin.SmallTypes.nextOf (.ref it)) Q E s:=by
 cases b
 ·exact Qfd hit hl hx hQ
 ·exact wpAny_nextOf_list_item hit hl hx hQ
theorem Qgr {b:Bool} {it l:Addr} {i:Nat} {xs:Array Value} {Q:Value->Shared->Prop} (hh:A.handled=none) (hit:IsIt b s.heap it l i) (hl:IsSq b s.heap l xs) (hx:xs[i]?=none)
  (hE:∀ h' e,Heap.ExtBut it s.heap h'->(∃ o,h'.get? e=some o∧o.cls=.type "StopIteration")->E (.ref e) { s with heap:=h' }):wpAny (model prog w) A (Builtin.SmallTypes.nextOf (.ref it)) Q E s:=by
 cases b
 ·exact Qcc hh hit hl hx hE
 ·exact wpAny_nextOf_list_end hh hit hl hx hE
theorem QjH {b1 b2:Bool} {z TI TO i1 i2 l1 l2:Addr} {k:Nat} {xs ys:Array Value} {x y a b:Value} {Q:Value->Shared->Prop} (D:ZipApart z TI TO i1 i2 l1 l2)
  (hz:IsZip s.heap z TI TO .none) (hTI:IsPair s.heap TI (.ref i1) (.ref i2)) (hTO:IsPair s.heap TO a b) (h1:IsIt b1 s.heap i1 l1 k) (h2:IsIt b2 s.heap i2 l2 k) (hl1:IsSq b1 s.heap l1 xs) (hl2:IsSq b2 s.heap l2 ys) (hx:xs[k]?=some x) (hy:ys[k]?=some y)
  (hQ:∀ h',IsZip h' z TI TO (rawInt s.heap.objs.size)->IsPair h' TO x y->IsIt b1 h' i1 l1 (k+1)->IsIt b2 h' i2 l2 (k+1)->IsPair h' s.heap.objs.size x y->h'.objs.size=s.heap.objs.size+1 ->
   (∀ c o,c≠z->c≠TO->c≠i1->c≠i2->s.heap.get? c=some o->h'.get? c=some o)->Q (.ref s.heap.objs.size) { s with heap:=h' }) :
  wpAny (model prog w) A (Builtin.«zip.__next__» ⟨[.ref z],[]⟩) (fun fin s'=>∃ v,fin=.done (.ret v)∧Q v s') E s:=by
 show wpAny _ _ (field (.ref z) 2 >>= _) _ _ _; refine wpAny_bind (wpAny_field hz rfl (x:=.bool false) rfl ?_)
 show wpAny _ _ (field (.ref z) 3 >>= _) _ _ _; refine wpAny_bind (wpAny_field hz rfl (x:=.ref TI) rfl ?_); refine wpAny_bind (wpAny_seqItems hTI rfl ?_)
 show wpAny _ _ (Builtin.SmallTypes.ownedTupleIsFree (.ref z) >>= _) _ _ _; refine wpAny_bind ?_; unfold Builtin.SmallTypes.ownedTupleIsFree
 refine wpAny_bind (wpAny_field hz rfl (x:=.none) rfl (wpAny_pure ?_)); simp only [if_true]; refine wpAny_bind (wpAny_rule ?_); refine wpAny_bind (wpAny_field hz rfl (x:=.ref TO) rfl ?_)
 refine wpAny_bind (wpAny_setField_rec hz (by simp) fun g1 hz1 hs1=>?_); replace hz1:IsZip g1 z TI TO .ellipsis:=hz1
 refine wpAny_bind ?_; simp only [List.zipIdx_cons,List.zipIdx_nil,List.forIn_cons,List.forIn_nil]; refine wpAny_bind (wpAny_bind (wpAny_onRaise ?_))
 show wpAny _ _ (Builtin.SmallTypes.nextOf (.ref i1) >>= _) _ _ _
 refine wpAny_bind (Qgq (h1.at fun o e=>hs1.extBut _ o D.i1z e) (hl1.at fun o e=>hs1.extBut _ o D.l1z e) hx fun g2 h12 hs2=>wpAny_pure ?_)
 have hTO2:IsPair g2 TO a b:=hs2.extBut _ _ D.TOi1 (hs1.extBut _ _ D.TOz hTO)
 refine wpAny_bind (wpAny_seqItems hTO2 rfl ?_); refine wpAny_bind (wpAny_updateSeq_pair hTO2 fun g3 hTO3 hs3=>?_); replace hTO3:IsPair g3 TO x b:=hTO3
 refine wpAny_bind (wpAny_letGo (wpAny_pure ?_)); refine wpAny_bind (wpAny_bind (wpAny_onRaise ?_))
 show wpAny _ _ (Builtin.SmallTypes.nextOf (.ref i2) >>= _) _ _ _
 refine wpAny_bind (Qgq (h2.at fun o e=>hs3.extBut _ o D.TOi2.symm (hs2.extBut _ o D.i12.symm (hs1.extBut _ o D.i2z e))) (hl2.at fun o e=>hs3.extBut _ o D.l2TO (hs2.extBut _ o D.l2i1 (hs1.extBut _ o D.l2z e))) hy fun g4 h24 hs4=>wpAny_pure ?_)
 have hTO4:IsPair g4 TO x b:=hs4.extBut _ _ D.TOi2 hTO3
 refine wpAny_bind (wpAny_seqItems hTO4 rfl ?_); refine wpAny_bind (wpAny_updateSeq_pair hTO4 fun g5 hTO5 hs5=>?_); replace hTO5:IsPair g5 TO x y:=hTO5
 refine wpAny_bind (wpAny_letGo (wpAny_pure (wpAny_pure ?_))); refine wpAny_bind (wpAny_seqItems hTO5 rfl ?_); refine wpAny_bind (wpAny_newTuple ?_)
 have hsz:g5.objs.size=s.heap.objs.size:=by rw [hs5.1,hs4.1,hs3.1,hs2.1,hs1.1]
 have hz5:IsZip g5 z TI TO .ellipsis:=hs5.extBut _ _ D.TOz.symm (hs4.extBut _ _ D.i2z.symm (hs3.extBut _ _ D.TOz.symm (hs2.extBut _ _ D.i1z.symm hz1)))
 have hk5:∀ c o,c≠z->c≠TO->c≠i1->c≠i2->s.heap.get? c=some o->g5.get? c=some o:=fun c o c1 c2 c3 c4 e=>hs5.extBut _ _ c2 (hs4.extBut _ _ c4 (hs3.extBut _ _ c2 (hs2.extBut _ _ c3 (hs1.extBut _ _ c1 e))))
 have h15:IsIt b1 g5 i1 l1 (k+1):=h12.at fun o e=>hs5.extBut _ o D.TOi1.symm (hs4.extBut _ o D.i12 (hs3.extBut _ o D.TOi1.symm e))
 have h25:IsIt b2 g5 i2 l2 (k+1):=h24.at fun o e=>hs5.extBut _ o D.TOi2.symm e
 have hzlt:z<g5.objs.size:=Heap.lt_size hz5
 show wpAny _ _ (Builtin.SmallTypes.ownedTupleHandOut (.ref z) (.ref g5.objs.size) >>= _) _ _ _
 refine wpAny_bind ?_; unfold Builtin.SmallTypes.ownedTupleHandOut
 have hz6:IsZip (g5.push { cls:=.type "tuple",data:=.seq #[x,y] }) z TI TO .ellipsis:=Heap.get?_push_of_some _ hz5
 refine wpAny_bind (wpAny_setField_rec hz6 (by simp) fun g7 hz7 hs7=>?_); replace hz7:IsZip g7 z TI TO (rawInt g5.objs.size):=hz7
 refine wpAny_setField_rec hz7 (by simp) fun g8 hz8 hs8=>?_; replace hz8:IsZip g8 z TI TO (rawInt g5.objs.size):=hz8
 have upz:∀ c o,c≠z->g5.get? c=some o->g8.get? c=some o:=fun c o c1 e=>hs8.extBut _ _ c1 (hs7.extBut _ _ c1 (Heap.get?_push_of_some _ e))
 have hT8:IsPair g8 g5.objs.size x y:=hs8.extBut _ _ (Nat.ne_of_gt hzlt) (hs7.extBut _ _ (Nat.ne_of_gt hzlt) (Heap.get?_push_size _ rfl))
 have hsz8:g8.objs.size=g5.objs.size+1:=by rw [hs8.1,hs7.1,Heap.size_push]
 rw [hsz] at hz8 hT8 hsz8; refine wpAny_pure ⟨_,rfl,?_⟩; show Q (.ref g5.objs.size) _; rw [hsz]
 exact hQ g8 hz8 (upz _ _ D.TOz hTO5) (h15.at fun o e=>upz _ o D.i1z e) (h25.at fun o e=>upz _ o D.i2z e) hT8 hsz8 fun c o c1 c2 c3 c4 e=>upz c o c1 (hk5 c o c1 c2 c3 c4 e)
theorem Qlu {b1 b2:Bool} {z TI TO i1 i2 l1 l2:Addr} {k:Nat} {xs ys:Array Value} {a b:Value} {Q:Fin->Shared->Prop} (hh:A.handled=none) (D:ZipApart z TI TO i1 i2 l1 l2)
  (hz:IsZip s.heap z TI TO .none) (hTI:IsPair s.heap TI (.ref i1) (.ref i2)) (hTO:IsPair s.heap TO a b) (h1:IsIt b1 s.heap i1 l1 k) (h2:IsIt b2 s.heap i2 l2 k) (hl1:IsSq b1 s.heap l1 xs) (hl2:IsSq b2 s.heap l2 ys) (hend:xs[k]?=none∨ys[k]?=none)
  (hE:∀ h' e,(∀ c o,c≠z->c≠TO->c≠i1->c≠i2->s.heap.get? c=some o->h'.get? c=some o)->(∃ o,h'.get? e=some o∧o.cls=.type "StopIteration")->E (.ref e) { s with heap:=h' }) :
  wpAny (model prog w) A (Builtin.«zip.__next__» ⟨[.ref z],[]⟩) Q E s:=by
 show wpAny _ _ (field (.ref z) 2 >>= _) _ _ _; refine wpAny_bind (wpAny_field hz rfl (x:=.bool false) rfl ?_)
 show wpAny _ _ (field (.ref z) 3 >>= _) _ _ _; refine wpAny_bind (wpAny_field hz rfl (x:=.ref TI) rfl ?_); refine wpAny_bind (wpAny_seqItems hTI rfl ?_)
 show wpAny _ _ (Builtin.SmallTypes.ownedTupleIsFree (.ref z) >>= _) _ _ _; refine wpAny_bind ?_; unfold Builtin.SmallTypes.ownedTupleIsFree
 refine wpAny_bind (wpAny_field hz rfl (x:=.none) rfl (wpAny_pure ?_)); simp only [if_true]; refine wpAny_bind (wpAny_rule ?_); refine wpAny_bind (wpAny_field hz rfl (x:=.ref TO) rfl ?_)
 refine wpAny_bind (wpAny_setField_rec hz (by simp) fun g1 hz1 hs1=>?_); replace hz1:IsZip g1 z TI TO .ellipsis:=hz1
 refine wpAny_bind ?_; simp only [List.zipIdx_cons,List.zipIdx_nil,List.forIn_cons,List.forIn_nil]; refine wpAny_bind (wpAny_bind (wpAny_onRaise ?_))
 show wpAny _ _ (Builtin.SmallTypes.nextOf (.ref i1) >>= _) _ _ _
 cases hx:xs[k]? with
 | none =>
  refine wpAny_bind (Qgr hh (h1.at fun o e=>hs1.extBut _ o D.i1z e) (hl1.at fun o e=>hs1.extBut _ o D.l1z e) hx fun g2 e hs2 he=>?_)
  obtain⟨oe,hoe,hce⟩:=he; have hz2:IsZip g2 z TI TO .ellipsis:=hs2 _ _ D.i1z.symm hz1
  have hez:e≠z:=fun q=>by subst q; rw [hz2] at hoe; cases hoe; simp at hce
  refine wpAny_setField_rec hz2 (by simp) fun g3 _ hs3=>hE g3 e (fun c o c1 _ c3 _ q=>hs3.extBut _ _ c1 (hs2 _ _ c3 (hs1.extBut _ _ c1 q))) ⟨oe,hs3.extBut _ _ hez hoe,hce⟩
 | some x =>
  have hy:ys[k]?=none:=by rcases hend with q | q; (· rw [hx] at q; cases q); exact q
  refine wpAny_bind (Qgq (h1.at fun o e=>hs1.extBut _ o D.i1z e) (hl1.at fun o e=>hs1.extBut _ o D.l1z e) hx fun g2 h12 hs2=>wpAny_pure ?_)
  have hTO2:IsPair g2 TO a b:=hs2.extBut _ _ D.TOi1 (hs1.extBut _ _ D.TOz hTO)
  refine wpAny_bind (wpAny_seqItems hTO2 rfl ?_); refine wpAny_bind (wpAny_updateSeq_pair hTO2 fun g3 hTO3 hs3=>?_); refine wpAny_bind (wpAny_letGo (wpAny_pure ?_)); refine wpAny_bind (wpAny_bind (wpAny_onRaise ?_))
  show wpAny _ _ (Builtin.SmallTypes.nextOf (.ref i2) >>= _) _ _ _
  refine wpAny_bind (Qgr hh (h2.at fun o e=>hs3.extBut _ o D.TOi2.symm (hs2.extBut _ o D.i12.symm (hs1.extBut _ o D.i2z e))) (hl2.at fun o e=>hs3.extBut _ o D.l2TO (hs2.extBut _ o D.l2i1 (hs1.extBut _ o D.l2z e))) hy fun g4 e hs4 he=>?_)
  obtain⟨oe,hoe,hce⟩:=he; have hz4:IsZip g4 z TI TO .ellipsis:=hs4 _ _ D.i2z.symm (hs3.extBut _ _ D.TOz.symm (hs2.extBut _ _ D.i1z.symm hz1))
  have hez:e≠z:=fun q=>by subst q; rw [hz4] at hoe; cases hoe; simp at hce
  refine wpAny_setField_rec hz4 (by simp) fun g5 _ hs5=>hE g5 e (fun c o c1 c2 c3 c4 q=>hs5.extBut _ _ c1 (hs4 _ _ c4 (hs3.extBut _ _ c2 (hs2.extBut _ _ c3 (hs1.extBut _ _ c1 q))))) ⟨oe,hs5.extBut _ _ hez hoe,hce⟩
theorem Qfe {b1 b2:Bool} {z TI TO i1 i2 l1 l2:Addr} {k:Nat} {xs ys:Array Value} {x y a b:Value} {Q:Option Value->Shared->Prop} (D:ZipApart z TI TO i1 i2 l1 l2)
  (hz:IsZip s.heap z TI TO .none) (hTI:IsPair s.heap TI (.ref i1) (.ref i2)) (hTO:IsPair s.heap TO a b) (h1:IsIt b1 s.heap i1 l1 k) (h2:IsIt b2 s.heap i2 l2 k) (hl1:IsSq b1 s.heap l1 xs) (hl2:IsSq b2 s.heap l2 ys) (hx:xs[k]?=some x) (hy:ys[k]?=some y)
  (hQ:∀ h',IsZip h' z TI TO (rawInt s.heap.objs.size)->IsPair h' TO x y->IsIt b1 h' i1 l1 (k+1)->IsIt b2 h' i2 l2 (k+1)->IsPair h' s.heap.objs.size x y->h'.objs.size=s.heap.objs.size+1 ->
   (∀ c o,c≠z->c≠TO->c≠i1->c≠i2->s.heap.get? c=some o->h'.get? c=some o)->Q (some (.ref s.heap.objs.size)) { s with heap:=h' }):wpAny (model prog w) A (pyNext (.ref z)) Q E s:=by
 have hT:s.TypeIs (.ref z) "zip":=⟨_,hz,rfl⟩; unfold pyNext
 exact wpAny_bind (wpAny_attempt (wpAny_callSpecial?_slot (name:=Str.ofString "__next__") hT F.slot_zip_next (wpAny_call_entry F.slot_zip_next hT F.entry_zip_next (QjH D hz hTI hTO h1 h2 hl1 hl2 hx hy fun h' a1 a2 a3 a4 a5 a6 a7=>wpAny_pure (hQ h' a1 a2 a3 a4 a5 a6 a7)) (F.args_zip_next_1 _))))
theorem Qcd {b1 b2:Bool} {z TI TO i1 i2 l1 l2:Addr} {k:Nat} {xs ys:Array Value} {a b:Value} {Q:Option Value->Shared->Prop} (hh:A.handled=none) (D:ZipApart z TI TO i1 i2 l1 l2)
  (hz:IsZip s.heap z TI TO .none) (hTI:IsPair s.heap TI (.ref i1) (.ref i2)) (hTO:IsPair s.heap TO a b) (h1:IsIt b1 s.heap i1 l1 k) (h2:IsIt b2 s.heap i2 l2 k) (hl1:IsSq b1 s.heap l1 xs) (hl2:IsSq b2 s.heap l2 ys) (hend:xs[k]?=none∨ys[k]?=none)
  (hQ:∀ h',(∀ c o,c≠z->c≠TO->c≠i1->c≠i2->s.heap.get? c=some o->h'.get? c=some o)->Q none { s with heap:=h' }):wpAny (model prog w) A (pyNext (.ref z)) Q E s:=by
 have hT:s.TypeIs (.ref z) "zip":=⟨_,hz,rfl⟩; unfold pyNext
 refine wpAny_bind (wpAny_attempt (wpAny_callSpecial?_slot (name:=Str.ofString "__next__") hT F.slot_zip_next (wpAny_call_entry F.slot_zip_next hT F.entry_zip_next (Qlu hh D hz hTI hTO h1 h2 hl1 hl2 hend fun h' e hk he=>?_) (F.args_zip_next_1 _))))
 obtain⟨o,ho,hc⟩:=he; refine wpAny_bind (wpAny_isInstance (T:="StopIteration") (b:=true) ⟨o,ho,hc⟩ isSubtype_stop ?_); exact wpAny_pure (hQ _ hk)
noncomputable def Qlv (b:Bool):String:=if b=true then "list_iterator" else "tuple_iterator"
noncomputable def Qce (b:Bool) (l:Addr):Obj:={ cls:=.type (Qlv b),data:=.fields #[.ref l,.int 0 0] }
theorem QcX {b:Bool} {l:Addr} {xs:Array Value} {Q:Value->Shared->Prop} (hl:IsSq b s.heap l xs) (h:Q (.ref s.heap.objs.size) { s with heap:=s.heap.push (Qce b l) }):wpAny (model prog w) A (pyIter (.ref l)) Q E s:=by
 cases b
 ·exact wpAny_pyIter_tuple hl h
 ·exact wpAny_pyIter_list hl h
theorem IsSq.push {b:Bool} {h:Heap} {l:Addr} {xs:Array Value} (x:IsSq b h l xs) (o:Obj):IsSq b (h.push o) l xs:=x.at fun _ e=>Heap.get?_push_of_some _ e
noncomputable abbrev zH1 (b1:Bool) (h:Heap) (l1:Addr):Heap:=h.push (Qce b1 l1)
noncomputable abbrev zH2 (b1 b2:Bool) (h:Heap) (l1 l2:Addr):Heap:=(zH1 b1 h l1).push (Qce b2 l2)
noncomputable abbrev zH3 (b1 b2:Bool) (h:Heap) (l1 l2:Addr):Heap:=(zH2 b1 b2 h l1 l2).push { cls:=.type "tuple",data:=.seq #[.ref h.objs.size,.ref (zH1 b1 h l1).objs.size] }
noncomputable abbrev zH4 (b1 b2:Bool) (h:Heap) (l1 l2:Addr):Heap:=(zH3 b1 b2 h l1 l2).push { cls:=.type "tuple",data:=.seq #[.none,.none] }
noncomputable abbrev zH5 (b1 b2:Bool) (h:Heap) (l1 l2:Addr):Heap:=(zH4 b1 b2 h l1 l2).push { cls:=.type "zip",data:=.fields #[.none,.bool false,.bool false,.ref (zH2 b1 b2 h l1 l2).objs.size,.ref (zH3 b1 b2 h l1 l2).objs.size] }
theorem QjI (b1 b2:Bool) (l1 l2:Addr) (xs ys:Array Value):Meets (Builtin.«zip.__new__» ⟨[.type "zip",.ref l1,.ref l2],[]⟩) (fun _ R s=>IsSq b1 s.heap l1 xs∧IsSq b2 s.heap l2 ys∧R (.ok (.ret (.ref (zH4 b1 b2 s.heap l1 l2).objs.size))) { s with heap:=zH5 b1 b2 s.heap l1 l2 }) :=
 .of_wp fun prog w A R s h=>by
  obtain⟨hp,g,d,tk,os⟩:=s; obtain⟨hl1,hl2,h⟩:=h; have hsub:=sub_zip
  have hL1:IsSq b1 (Shared.heap ⟨hp,g,d,tk,os⟩) l1 xs:=hl1
  have hL2:IsSq b2 (Shared.heap ⟨hp.push (Qce b1 l1),g,d,tk,os⟩) l2 ys:=hl2.push _
  wp_walk using QcX hL1,QcX hL2
  exact⟨_,rfl,h⟩
theorem itAt (b:Bool) {h:Heap} {i l:Addr} (e:h.get? i=some (Qce b l)):IsIt b h i l 0:=by
 cases b
 ·exact⟨_,e,rfl,rfl⟩
 ·exact⟨_,e,rfl,rfl⟩
theorem QhM {b1 b2:Bool} {l1 l2:Addr} {xs ys:Array Value} {Q:Value->Shared->Prop} (hl1:IsSq b1 s.heap l1 xs) (hl2:IsSq b2 s.heap l2 ys)
  (h:∀ h',IsZip h' (s.heap.objs.size+4) (s.heap.objs.size+2) (s.heap.objs.size+3) .none->IsPair h' (s.heap.objs.size+2) (.ref s.heap.objs.size) (.ref (s.heap.objs.size+1))->IsPair h' (s.heap.objs.size+3) .none .none ->
   IsIt b1 h' s.heap.objs.size l1 0->IsIt b2 h' (s.heap.objs.size+1) l2 0->h'.objs.size=s.heap.objs.size+5->(∀ c o,s.heap.get? c=some o->h'.get? c=some o)->Q (.ref (s.heap.objs.size+4)) { s with heap:=h' }) :
  wpAny (model prog w) A (call (.type "zip") [.ref l1,.ref l2]) Q E s:=by
 refine callType_new F.called_zip (by decide) (F.typeCall_zip_2 _ _) (F.newCall_zip_2 _ _) (fun obj=>F.args_object_init_3 obj _ _) F.entry_zip_new (QjI b1 b2 l1 l2 xs ys) ⟨hl1,hl2,?_⟩
 have z1:(zH1 b1 s.heap l1).objs.size=s.heap.objs.size+1:=Heap.size_push ..
 have z2:(zH2 b1 b2 s.heap l1 l2).objs.size=s.heap.objs.size+2:=by rw [Heap.size_push,z1]
 have z3:(zH3 b1 b2 s.heap l1 l2).objs.size=s.heap.objs.size+3:=by rw [Heap.size_push,z2]
 have z4:(zH4 b1 b2 s.heap l1 l2).objs.size=s.heap.objs.size+4:=by rw [Heap.size_push,z3]
 have z5:(zH5 b1 b2 s.heap l1 l2).objs.size=s.heap.objs.size+5:=by rw [Heap.size_push,z4]
 have g5:(zH5 b1 b2 s.heap l1 l2).get? (zH4 b1 b2 s.heap l1 l2).objs.size=some _:=Heap.get?_push_size _ rfl
 have g4:(zH5 b1 b2 s.heap l1 l2).get? (zH3 b1 b2 s.heap l1 l2).objs.size=some _:=Heap.get?_push_of_some _ (Heap.get?_push_size _ rfl)
 have g3:(zH5 b1 b2 s.heap l1 l2).get? (zH2 b1 b2 s.heap l1 l2).objs.size=some _:=Heap.get?_push_of_some _ (Heap.get?_push_of_some _ (Heap.get?_push_size _ rfl))
 have g2:(zH5 b1 b2 s.heap l1 l2).get? (zH1 b1 s.heap l1).objs.size=some (Qce b2 l2):=Heap.get?_push_of_some _ (Heap.get?_push_of_some _ (Heap.get?_push_of_some _ (Heap.get?_push_size _ (by unfold Qce; rfl))))
 have g1:(zH5 b1 b2 s.heap l1 l2).get? s.heap.objs.size=some (Qce b1 l1):=Heap.get?_push_of_some _ (Heap.get?_push_of_some _ (Heap.get?_push_of_some _ (Heap.get?_push_of_some _ (Heap.get?_push_size _ (by unfold Qce; rfl)))))
 show _∧_
 rw [z2,z3,z4] at g5; rw [z1,z2] at g3; rw [z3] at g4; rw [z1] at g2; rw [z4]
 exact⟨⟨_,g5,rfl⟩,h _ g5 g3 g4 (itAt b1 g1) (itAt b2 g2) z5 fun c o q=>Heap.get?_push_of_some _ (Heap.get?_push_of_some _ (Heap.get?_push_of_some _ (Heap.get?_push_of_some _ (Heap.get?_push_of_some _ q))))⟩
end
end L3
end
section
namespace L3
open PySem PySem.Spec PyProof.Rows L2
noncomputable def Sq (b:Bool) (K:PySem.W.Frag) (H:Hp) (a:Addr) (xs:List V):Prop:=if b=true then SqL K H a xs else SqT K H a xs
theorem Sq.real {b:Bool} {X:Cx} {pins:List (Addr×Obj)} {σ:L2.St} {H:Hp} {s:Shared} {a:Addr} {xs:List V} (I:Inv X pins σ H s) (h:Sq b X.K H a xs):∃ its:List Value,Vals xs its∧IsSq b s.heap a its.toArray:=by
 cases b
 ·obtain⟨its,r,p,_⟩:=I.tuple (show SqT X.K H a xs from h); exact⟨its,r,p⟩
 ·obtain⟨its,r,p,_⟩:=I.list (show SqL X.K H a xs from h); exact⟨its,r,p.isList⟩
theorem Sq.inj {b:Bool} {X:Cx} {pins:List (Addr×Obj)} {σ:L2.St} {H:Hp} {s:Shared} {a:Addr} {xs ys:List V} (I:Inv X pins σ H s) (h:Sq b X.K H a xs) (h':Sq b X.K H a ys):xs=ys:=by
 cases b
 ·exact I.tuple_inj h h'
 ·exact I.list_inj h h'
noncomputable def Itz (K:PySem.W.Frag) (b1 b2:Bool) (a1 a2:Addr):It :=
  ⟨fun i H=>∃ xs ys x y,Sq b1 K H a1 xs∧Sq b2 K H a2 ys∧xs[i]?=some x∧ys[i]?=some y,
   fun i H v H'=>∃ p x y,H p=none∧v=.ref p∧H'=upd H p (.tup [x,y])∧(∀ xs,Sq b1 K H a1 xs->xs[i]?=some x)∧∀ ys,Sq b2 K H a2 ys->ys[i]?=some y,
   fun i H=>∃ xs ys,Sq b1 K H a1 xs∧Sq b2 K H a2 ys∧(xs.length≤i∨ys.length≤i)⟩
noncomputable def QmA (b1 b2:Bool) (z TI TO i1 i2 l1 l2:Addr) (i:Nat) (h:Heap):Prop :=
 IsZip h z TI TO .none∧IsPair h TI (.ref i1) (.ref i2)∧(∃ a b,IsPair h TO a b)∧IsIt b1 h i1 l1 i∧IsIt b2 h i2 l2 i
theorem QhN {P:Program} {w:World} {K:PySem.W.Frag} {elts:List Expr} {kk:Nat} {tp:Pos} (b1 b2:Bool) (z TI TO i1 i2 l1 l2:Addr) (D:ZipApart z TI TO i1 i2 l1 l2) :
  Turn P w K (.Tuple elts kk tp) (Itz K b1 b2 l1 l2) [z,TI,TO,i1,i2] z (QmA b1 b2 z TI TO i1 i2 l1 l2) where
 mem:=by simp
 obj:=fun i h st b hb=>by
  obtain⟨hz,hTI,⟨a,c,hTO⟩,h1,h2⟩:=st
  have hb':b=z∨b=TI∨b=TO∨b=i1∨b=i2:=by simpa using hb
  rcases hb' with rfl | rfl | rfl | rfl | rfl
  ·exact⟨_,hz,fun v q=>by cases q⟩
  ·exact⟨_,hTI,fun v q=>by cases q⟩
  ·exact⟨_,hTO,fun v q=>by cases q⟩
  ·exact h1.rec
  ·exact h2.rec
 keep:=fun i h h' st k=>by
  obtain⟨hz,hTI,⟨a,c,hTO⟩,h1,h2⟩:=st
  exact⟨k z (by simp) _ hz,k TI (by simp) _ hTI,⟨a,c,k TO (by simp) _ hTO⟩,h1.at fun o e=>k i1 (by simp) o e,h2.at fun o e=>k i2 (by simp) o e⟩
 item:=by
  intro X hP hw hK hc i pins s σ H E I hf st hg
  subst hP hw hK
  obtain⟨xs,ys,x,y,q1,q2,hx,hy⟩:=hg
  obtain⟨us,r1,p1⟩:=q1.real I
  obtain⟨ts,r2,p2⟩:=q2.real I
  obtain⟨u,hu,ru⟩:=r1.get hx
  obtain⟨t,ht,rt⟩:=r2.get hy
  obtain⟨hz,hTI,⟨a,c,hTO⟩,h1,h2⟩:=st
  have fz:=hf z (by simp)
  have fTI:=hf TI (by simp)
  have fTO:=hf TO (by simp)
  have f1:=hf i1 (by simp)
  have f2:=hf i2 (by simp)
  refine Qfe D hz hTI hTO h1 h2 p1 p2 (by simpa using hu) (by simpa using ht) fun h' a1 a2 a3 a4 a5 a6 hk=>?_
  have hp:H s.heap.objs.size=none:=I.hok.fresh (Nat.le_refl _)
  have inC:∀ b,b∈[z,TO,i1,i2]->FpOk X pins H b:=fun b hb=>by
   have hb':b=z∨b=TO∨b=i1∨b=i2:=by simpa using hb
   rcases hb' with rfl | rfl | rfl | rfl
   ·exact fz
   ·exact fTO
   ·exact f1
   ·exact f2
  have hk':∀ b o,b∉[z,TO,i1,i2]->s.heap.get? b=some o->h'.get? b=some o:=fun b o hb e=>hk b o (fun q=>hb (by simp [q])) (fun q=>hb (by simp [q])) (fun q=>hb (by simp [q])) (fun q=>hb (by simp [q])) e
  have nC:∀ b v,H b=some v->b∉[z,TO,i1,i2]:=fun b v e hb=>by rw [(inC b hb).1] at e; cases e
  have nP:∀ b v,H b=some v->b≠s.heap.objs.size:=fun b v e=>QO e hp
  have I1:Inv X pins σ (upd H s.heap.objs.size (.tup [x,y])) { s with heap:=h' }:=by
   refine I.step (g':=s.gens) (t':=s.toks) (d':=s.drawn) (ch:=[z,TO,i1,i2]) (fun b hb=>⟨(inC b hb).2.2.2.1,(inC b hb).2.1,(inC b hb).2.2.2.2.1,(inC b hb).2.2.2.2.2⟩) (fun b o _ _ hb e _=>hk' b o hb e) (fun b o _ _ hb e _=>⟨o.slots,hk' b o hb e⟩)
    (fun b o hb e n=>by rw [Qq (Nat.ne_of_lt (Heap.lt_size e))]; exact n) (fun b o hb e=>⟨o,hk' b o hb e⟩) (fun b v e=>by rw [Qq (nP b _ e)]; exact e) (fun b o v e=>by rw [Qq (nP b _ e)]; exact e) (fun b ps e=>⟨#[],by rw [Qq (nP b _ e),e]; simp⟩)
    (fun m hm=>?_) (fun b v e=>?_) I.bare
   ·obtain⟨o,es,ep,ho,rr⟩:=hm
    exact⟨o,es,ep,hk' _ o (fun hb=>(inC _ hb).2.1 rfl) ho,rr⟩
   ·by_cases hb:b=s.heap.objs.size
    ·subst hb
     rw [Qn] at e; cases e
     exact⟨by rw [sizeLine_eq]; show 2≤16777216; decide,[u,t],.cons ru (.cons rt .nil),⟨_,a5,rfl,_,rfl⟩⟩
    ·rw [Qq hb] at e
     refine(I.hok b v e).stay (fun c' v' hc' q=>?_) (fun c' q=>by rw [Qq (nP c' _ q)]; exact q) fun c' xs' q=>by rw [Qq (nP c' _ q)]; exact q
     rcases hc' with rfl | hc'
     ·exact hk' _ _ (nC _ _ e) q
     ·exact hk' _ _ (nC _ _ hc') q
  refine⟨_,rfl,wpAny_letOwnedTupleGo_zip a1 fun h'' hz'' hs''=>?_⟩
  have hpz:s.heap.objs.size≠z:=Nat.ne_of_gt (Heap.lt_size hz)
  have I2:Inv X pins σ (upd H s.heap.objs.size (.tup [x,y])) { s with heap:=h'' }:=Inv.turned (s:={ s with heap:=h' }) (t':=s.toks) I1 (fun b o hb e=>hs''.extBut b o hb e) (by rw [Qq (Ne.symm hpz)]; exact fz.1) fz.2.1 fz.2.2.2.1 fz.2.2.2.2.1 fz.2.2.2.2.2
  refine⟨.ref s.heap.objs.size,_,I2,rfl,⟨_,x,y,hp,rfl,rfl,fun xs' q=>by rw [q.inj I q1]; exact hx,fun ys' q=>by rw [q.inj I q2]; exact hy⟩,
   ⟨hz'',hs''.extBut _ _ D.TIz (hk _ _ D.TIz D.TITO D.TIi1 D.TIi2 hTI),⟨_,_,hs''.extBut _ _ D.TOz a2⟩,a3.at fun o e=>hs''.extBut _ o D.i1z e,a4.at fun o e=>hs''.extBut _ o D.i2z e⟩,fun b hb=>?_⟩
  have lt:b<s.heap.objs.size:=by
   have hb':b=z∨b=TI∨b=TO∨b=i1∨b=i2:=by simpa using hb
   rcases hb' with rfl | rfl | rfl | rfl | rfl
   ·exact Heap.lt_size hz
   ·exact Heap.lt_size hTI
   ·exact Heap.lt_size hTO
   ·exact h1.lt
   ·exact h2.lt
  rw [Qq (Nat.ne_of_lt lt)]
  exact(hf b hb).1
 done:=by
  intro X hP hw hK hc i pins s σ H E I hf st hg
  subst hP hw hK
  obtain⟨xs,ys,q1,q2,hl⟩:=hg
  obtain⟨us,r1,p1⟩:=q1.real I
  obtain⟨ts,r2,p2⟩:=q2.real I
  have l1:=r1.length
  have l2:=r2.length
  obtain⟨hz,hTI,⟨a,c,hTO⟩,h1,h2⟩:=st
  have inC:∀ b,b∈[z,TO,i1,i2]->FpOk X pins H b:=fun b hb=>hf b (by
   have hb':b=z∨b=TO∨b=i1∨b=i2:=by simpa using hb
   rcases hb' with rfl | rfl | rfl | rfl <;> simp)
  refine Qcd (I.ok.hd hc) D hz hTI hTO h1 h2 p1 p2 (by
   rcases hl with z | z
   ·exact .inl (by simp; omega)
   ·exact .inr (by simp; omega)) fun h' hk=>⟨rfl,?_⟩
  have hk':∀ b o,b∉[z,TO,i1,i2]->s.heap.get? b=some o->h'.get? b=some o:=fun b o hb e=>hk b o (fun q=>hb (by simp [q])) (fun q=>hb (by simp [q])) (fun q=>hb (by simp [q])) (fun q=>hb (by simp [q])) e
  have nC:∀ b v,H b=some v->b∉[z,TO,i1,i2]:=fun b v e hb=>by rw [(inC b hb).1] at e; cases e
  refine I.step (g':=s.gens) (t':=s.toks) (d':=s.drawn) (ch:=[z,TO,i1,i2]) (fun b hb=>⟨(inC b hb).2.2.2.1,(inC b hb).2.1,(inC b hb).2.2.2.2.1,(inC b hb).2.2.2.2.2⟩) (fun b o _ _ hb e _=>hk' b o hb e) (fun b o _ _ hb e _=>⟨o.slots,hk' b o hb e⟩)
   (fun b o hb e n=>n) (fun b o hb e=>⟨o,hk' b o hb e⟩) (fun b v e=>e) (fun b o v e=>e) (fun b ps e=>⟨#[],by rw [e]; simp⟩) (fun m hm=>?_) (fun b v e=>?_) I.bare
  ·obtain⟨o,es,ep,ho,rr⟩:=hm
   exact⟨o,es,ep,hk' _ o (fun hb=>(inC _ hb).2.1 rfl) ho,rr⟩
  ·refine(I.hok b v e).stay (fun c' v' hc' q=>?_) (fun c' q=>q) fun c' xs' q=>q
   rcases hc' with rfl | hc'
   ·exact hk' _ _ (nC _ _ e) q
   ·exact hk' _ _ (nC _ _ hc') q
 self:=fun _ _ _ _ _ st h=>wpAny_pyIter_zip st.1 h
section
variable {X:Cx} {ca:Nat->Addr} {e1 e2:Expr} {m1 m2:ME} {p pos tp:Pos} {elts:List Expr} {kk:Nat}
theorem Qlw {ta:TA} (hg:Gl X "zip") (hm:X.mg "zip" = none) (ha:PA X [e1,e2] ta) (hs:starEach [e1,e2] X.env=[(false,eval e1 X.env),(false,eval e2 X.env)]) (hs2:starEach [e2] X.env=[(false,eval e2 X.env)]) :
  PI X (.Tuple elts kk tp) (.Call (.Name "zip" p) [e1,e2] [] pos) (fun σ H R=>ta σ H fun vs H1=>∃ b1 b2 a1 a2 xs ys,vs=[.ref a1,.ref a2]∧Sq b1 X.K H1 a1 xs∧Sq b2 X.K H1 a2 ys∧R (Itz X.K b1 b2 a1 a2) H1):=by
 intro pins s σ H R I h
 refine Call_ (Qas I hg hm boot_zip (PyProof.Rows.callWith_type1 (thn (ha pos pins s σ H _ I h) fun us s1 ⟨vs,H1,I1,r1,q1⟩=>?_) (by rw [hs,hs2]) (by rw [hs2]; rfl)))
 obtain⟨b1,b2,a1,a2,xs,ys,rfl,q1,q2,q⟩:=q1
 cases r1 with
 | cons ru rr =>
  cases rr with
  | cons rt rr =>
   cases rr
   cases ru
   cases rt
   obtain⟨its1,v1,p1⟩:=q1.real I1
   obtain⟨its2,v2,p2⟩:=q2.real I1
   refine QhM p1 p2 fun h' hz hTI hTO hi1 hi2 hsz hk=>wpAny_pyIter_zip hz ?_
   have I2:Inv X pins σ H1 { s1 with heap:=h' }:=I1.kept (t':=s1.toks) hk
   refine⟨s1.heap.objs.size+4,_,_,_,H1,rfl,I2,QhN b1 b2 _ (s1.heap.objs.size+2) (s1.heap.objs.size+3) s1.heap.objs.size (s1.heap.objs.size+1) a1 a2 (PyProof.Rows.zipApart_new p1.lt p2.lt),⟨hz,hTI,⟨_,_,hTO⟩,hi1,hi2⟩,fun b hb=>?_,q⟩
   have hb':b=s1.heap.objs.size+4∨b=s1.heap.objs.size+2∨b=s1.heap.objs.size+3∨b=s1.heap.objs.size∨b=s1.heap.objs.size+1:=by simpa using hb
   have hle:s1.heap.objs.size≤b:=by rcases hb' with h | h | h | h | h <;> rw [h] <;> first | exact Nat.le_refl _ | exact Nat.le_add_right _ _
   exact I1.fpOk hle (I1.hok.fresh hle)
theorem Ya {K:PySem.W.Frag} {μ:List Addr} {H:Hp} {g:G} {v:V} {d:D} {b:Bool} {ds:List D} (r:GRep K ca μ H g) (q:Den K μ H v d) (h:QG g d=some (b,ds)):∃ a vs,v=.ref a∧Sq b K H a vs∧Dens K μ H vs ds:=by
 cases q with
 | @tup a vs es ht hs=>cases h; exact⟨a,vs,rfl,ht,hs⟩
 | @fl a vs es ht hs=>cases h; exact⟨a,vs,rfl,ht.sq,hs⟩
 | @ref n a hn =>
  unfold QG at h
  dsimp only at h
  cases hg:g[n]? with
  | none=>rw [hg] at h; cases h
  | some o =>
   rw [hg] at h
   obtain⟨a',ha',ob⟩:=r.addr hg
   rw [hn] at ha'; cases ha'
   cases o with
   | lst es=>cases h; obtain⟨vs,hH,q⟩:=ob; exact⟨a,vs,rfl,SqL.of hH,q⟩
   | _=>cases h
 | _=>cases h
theorem Qaf {K:PySem.W.Frag} {μ:List Addr} {H:Hp} {g g':G} {μ':List Addr} {H':Hp} {d:D} {v:V} {b b':Bool} {ds ds':List D} (h:QG g d=some (b,ds)) (h':QG g' d=some (b',ds')):b=b':=by
 unfold QG at h h'
 cases d with
 | tup es=>cases h; cases h'; rfl
 | fl es=>cases h; cases h'; rfl
 | ref n =>
  dsimp only at h h'
  have k1:b=true:=by
   cases hg:g[n]? with
   | none=>rw [hg] at h; cases h
   | some o=>rw [hg] at h; cases o <;> cases h <;> rfl
  have k2:b'=true:=by
   cases hg:g'[n]? with
   | none=>rw [hg] at h'; cases h'
   | some o=>rw [hg] at h'; cases o <;> cases h' <;> rfl
  rw [k1,k2]
 | _=>cases h
theorem QjJ {K:PySem.W.Frag} {μ:List Addr} {H:Hp} {g:G} {v1 v2:V} {d1 d2:D} {b1 b2:Bool} {xs ys:List D} {t:Nat} (q1:Den K μ H v1 d1) (q2:Den K μ H v2 d2) (h1:QG g d1=some (b1,xs)) (h2:QG g d2=some (b2,ys)) {a1 a2:Addr} (e1:v1=.ref a1) (e2:v2=.ref a2) :
  Sim K ca μ H ⟨fun g i=>(match QG g d1,QG g d2 with
  | some (_,xs),some (_,ys)=>(match xs[i]?,ys[i]? with
   | some x,some y=>some (some (.tup [x,y]))
   | _,_=>some none)
  | _,_=>none),t⟩ (Itz K b1 b2 a1 a2):=by
 intro i H1 μ1 g1 ex r
 dsimp only
 cases k1:QG g1 d1 with
 | none=>trivial
 | some p1 =>
  obtain⟨c1,xs1⟩:=p1
  cases k2:QG g1 d2 with
  | none=>trivial
  | some p2 =>
   obtain⟨c2,ys1⟩:=p2
   have f1:=Qaf (K:=K) (μ:=μ) (H:=H) (μ':=μ) (H':=H) (v:=v1) h1 k1
   have f2:=Qaf (K:=K) (μ:=μ) (H:=H) (μ':=μ) (H':=H) (v:=v1) h2 k2
   subst f1 f2
   obtain⟨z1,vs,w1,s1,d1s⟩:=Ya r (q1.mono ex) k1
   obtain⟨z2,ws,w2,s2,d2s⟩:=Ya r (q2.mono ex) k2
   rw [e1] at w1; cases w1
   rw [e2] at w2; cases w2
   dsimp only
   cases hx:xs1[i]? with
   | none =>
    refine⟨vs,ws,s1,s2,.inl ?_⟩
    rw [d1s.length]; exact List.getElem?_eq_none_iff.mp hx
   | some x =>
    cases hy:ys1[i]? with
    | none =>
     refine⟨vs,ws,s1,s2,.inr ?_⟩
     rw [d2s.length]; exact List.getElem?_eq_none_iff.mp hy
    | some y =>
     obtain⟨vx,hvx,qx⟩:=d1s.get hx
     obtain⟨vy,hvy,qy⟩:=d2s.get hy
     refine⟨⟨vs,ws,vx,vy,s1,s2,hvx,hvy⟩,fun v H' yl=>?_⟩
     obtain⟨pp,x',y',hp,rfl,rfl,u1,u2⟩:=yl
     have:=u1 vs s1
     rw [hvx] at this; cases this
     have:=u2 ws s2
     rw [hvy] at this; cases this
     exact⟨Q8 hp,r.new hp,.tup (.of Qn) (.cons (qx.mono (Q8 hp)) (.cons (qy.mono (Q8 hp)) .nil))⟩
theorem Qlx (hm:X.mg "zip" = none) (h1:PE3 ca X e1 m1) (h2:PE3 ca X e2 m2) (hg:Gl X "zip":=by rfl) (hs:starEach [e1,e2] X.env=[(false,eval e1 X.env),(false,eval e2 X.env)]:=by rfl) (hs2:starEach [e2] X.env=[(false,eval e2 X.env)]:=by rfl)
  (hs3:starEach [e1,e2] X.env=(false,eval e1 X.env)::starEach [e2] X.env:=by rfl):PI3 ca X (.Tuple elts kk tp) (.Call (.Name "zip" p) [e1,e2] [] pos) (QaZ m1 m2) :=
 fun pn Φ=>Qb8 (Qlw (X:=xat X ca pn Φ) hg hm (YY h1 (YY h2 Qk hs2) hs3 pn Φ) hs hs2) fun σ H R hQ=>by
  obtain⟨σ3,g,μ,Rp,q⟩:=hQ
  refine⟨σ3,g,μ,Rp,?_⟩
  unfold QaZ at q
  unfold Qa mNil
  cases hm1:m1 σ3 g with
  | raise _ _=>rw [hm1] at q; exact q
  | stuck=>rw [hm1] at q; exact q.elim
  | ok d1 g1 =>
   rw [hm1,Res.bind_ok] at q
   rw [Res.bind_ok]
   cases hm2:m2 σ3 g1 with
   | raise _ _=>rw [hm2] at q; exact q
   | stuck=>rw [hm2] at q; exact q.elim
   | ok d2 g2 =>
    rw [hm2,Res.bind_ok] at q
    rw [Res.bind_ok,Res.bind_ok,Res.bind_ok]
    intro vs H1 μ1 ex r1 q1
    cases q1 with
    | @cons v1 _ _ _ n1 q1 =>
     cases q1 with
     | @cons v2 _ _ _ n2 q1 =>
      cases q1
      unfold QbH at q
      cases k1:QG g2 d1 with
      | none=>rw [k1] at q; exact q.elim
      | some p1 =>
       obtain⟨b1,xs⟩:=p1
       cases k2:QG g2 d2 with
       | none=>rw [k1,k2] at q; exact q.elim
       | some p2 =>
        obtain⟨b2,ys⟩:=p2
        rw [k1,k2] at q
        obtain⟨a1,us,rfl,s1,_⟩:=Ya r1 n1 k1
        obtain⟨a2,ts,rfl,s2,_⟩:=Ya r1 n2 k2
        exact⟨b1,b2,a1,a2,us,ts,rfl,s1,s2,q _ H1 μ1 ex r1 (QjJ n1 n2 k1 k2 rfl rfl)⟩
end
end L3
end
section
namespace L3
open PySem PySem.Spec PyProof.Rows L2
theorem Y8 (K:PySem.W.Frag) (t c:Ty):PySem.W.kitOne K (.type t.name) (.type c.name)=some (tyLe t c):=by
 cases t <;> cases c <;> kernel_rfl
section
variable {X:Cx} {ca:Nat->Addr} {a b c e:Expr} {ma mb mc me:ME} {pos p p2:Pos} {k:Nat}
theorem Qgs (c:Ty):Qac X (.builtin "isinstance") (fun xs H Q=>∃ x g μ d t,xs=[x,.ty c.name]∧GRep X.K ca μ H g∧Den X.K μ H x d∧tyOf g d=some t∧Q (.bl (tyLe t c)) H):=by
 intro pins s σ H xs us Q I rv h
 obtain⟨x,g,μ,d,t,rfl,r,q,ht,qq⟩:=h
 obtain⟨u,u2,rfl,ru,ru2⟩:=rv.two
 cases ru2
 have fin:∀ tk,EP X pins σ Q (.bool (tyLe t c)) { s with toks:=tk }:=fun tk=>⟨.bl _,H,I.tok tk,rfl,qq⟩
 cases q with
 | non=>cases ht; exact Yj I ru .non (Y8 X.K .non c) fin
 | bl y=>cases ht; exact Yj I ru (.bl y) (Y8 X.K .bool c) fin
 | int y=>cases ht; exact Yj I ru (.int y) (Y8 X.K .int c) fin
 | str y=>cases ht; exact Yj I ru (.str y) (Y8 X.K .str c) fin
 | @tup a vs ds hq hs =>
  cases ht
  cases ru
  obtain⟨its,_,⟨o,h1,h2,_⟩,_⟩:=I.tuple hq
  exact PySem.W.kia_one PySem.W.kitx_tuple I.kIn ⟨o,h1,h2⟩ (Y8 X.K .tuple c) (fun z=>nomatch z) fin
 | @fl a vs ds hq hs =>
  cases ht
  cases ru
  obtain⟨its,_,p,_⟩:=I.list hq.sq
  obtain⟨o,h1,h2,_⟩:=p.isList
  exact PySem.W.kia_one PySem.W.kitx_list I.kIn ⟨o,h1,h2⟩ (Y8 X.K .list c) (fun z=>nomatch z) fin
 | @ref n a hn =>
  unfold tyOf at ht
  dsimp only at ht
  cases hg:g[n]? with
  | none=>rw [hg] at ht; cases ht
  | some o =>
   rw [hg] at ht
   obtain⟨a',ha',ob⟩:=r.addr hg
   rw [hn] at ha'; cases ha'
   cases o with
   | lst ds=>cases ht; obtain⟨vs,hH,_⟩:=ob; exact Yj I ru (.lst hH) (Y8 X.K .list c) fin
   | dct ks=>cases ht; obtain⟨kv,hH,_⟩:=ob; exact Yj I ru (.dK hH) (Y8 X.K .dict c) fin
   | ins _ _=>cases ht
   | exc _=>cases ht
theorem Yn {x:Str} (c:Ty) (hi:X.mg "isinstance" = none) (hm:X.mg x=none) (hv:bootBuiltins x=some (.type c.name)) (he:PE3 ca X e me) (hgi:Gl X "isinstance":=by rfl) (hg:Gl X x:=by rfl) (hnm:x ≠ "__name__":=by decide) (hdb:(x == ("__debug__" : Str))=false:=by decide)
  (hs:starEach [e,.Name x p2] X.env=(false,eval e X.env)::starEach [.Name x p2] X.env:=by rfl) (hs2:starEach [.Name x p2] X.env=(false,eval (.Name x p2) X.env)::starEach [] X.env:=by rfl) (hpl:(backTo pos (starEach [.Name x p2] X.env)).any (·.1)=false:=by rfl) :
  PE3 ca X (.Call (.Name "isinstance" p) [e,.Name x p2] [] pos) (mOp1 (ZL c) me) :=
 fun pn Φ=>Q7 (QaF (X:=xat X ca pn Φ) (Qgs (ca:=ca) c) hgi hi boot_isinstance (Jx (X:=xat X ca pn Φ) (he pn Φ) (Jx (X:=xat X ca pn Φ) (QfP (X:=xat X ca pn Φ) (v:=.ty c.name) hg hm hv rfl hnm hdb) Qel hs2) hs) (by decide) (by decide) hs hpl) fun σ H Q ⟨σ3,g,μ,R,q⟩ =>
  Q9 (Y1 R q) fun y H1 hQ=>by
   obtain⟨d,g1,μ1,e1,R1,q1,p1⟩:=hQ
   unfold ZL at p1
   cases ht:tyOf g1 d with
   | none=>rw [ht] at p1; exact p1.elim
   | some t=>rw [ht] at p1; exact⟨y,g1,μ1,d,t,rfl,R1.g,q1,ht,p1 _ H1 μ1 .refl R1.g (.bl _)⟩
theorem Qex {K:PySem.W.Frag} {μ:List Addr} {H:Hp}:∀ {vs:List V} {ds:List D} {us:List Value} {b:Bool},Dens K μ H vs ds->Vals vs us->allB ds=some b->∃ bs:List Bool,us=bs.map Value.bool∧bs.all id=b
 | _,_,_,b,.nil,.nil,h=>by cases h; exact⟨[],rfl,rfl⟩
 | _,_,_,b,@Dens.cons _ _ _ _ _ _ ds q qs,.cons r rs,h=>by
  cases q with
  | bl c =>
   unfold allB at h
   cases hd:allB ds with
   | none=>rw [hd] at h; cases h
   | some d =>
    rw [hd] at h
    cases h
    obtain⟨bs,h1,h2⟩:=Qex qs rs hd
    cases r
    exact⟨c::bs,by rw [h1]; rfl,by simp [h2]⟩
  | _=>cases h
theorem Qgt (bs:List Bool):((List.range bs.length).all fun i=>(bs[i]?).getD true)=bs.all id:=by
 rw [Bool.eq_iff_iff,List.all_eq_true,List.all_eq_true]
 constructor
 ·intro h b hb
  obtain⟨i,hi,rfl⟩:=List.getElem_of_mem hb
  have:=h i (List.mem_range.mpr hi)
  simpa [hi] using this
 ·intro h i hi
  have hi':=List.mem_range.mp hi
  have:=h bs[i] (List.getElem_mem hi')
  simpa [hi'] using this
theorem Qgu (hc:X.calm=true):Qac X (.builtin "all") (fun xs H Q=>∃ p vs ds μ b,xs=[.ref p]∧SqL X.K H p vs∧Dens X.K μ H vs ds∧allB ds=some b∧Q (.bl b) H):=by
 intro pins s σ H xs us Q I rv h
 obtain⟨l,vs,ds,μ,b,rfl,hq,q,hb,qq⟩:=h
 obtain⟨u,rfl,ru⟩:=rv.one
 cases ru
 obtain⟨its,rs,pl,_⟩:=I.list hq
 obtain⟨bs,rfl,e2⟩:=Qex q rs hb
 have hl:=pl.isList
 have hlt:l<s.heap.objs.size:=by obtain⟨_,e,_⟩:=hl; exact Heap.lt_size e
 refine call_all_walk (wpAny_pyIter_list hl ⟨s.heap.objs.size,[s.heap.objs.size,l],[s.heap.objs.size],_,_,_,fun i=>(bs[i]?).getD true,rfl,Walks.list (A:=X.A.in1) (show X.A.in1.handled=none from I.ok.hd hc) _ l (Nat.ne_of_lt hlt) _,⟨⟨_,Heap.get?_push_size _ rfl,rfl,rfl⟩,hl.push _⟩,fun i v s' Q' E' hP hQ=>?_,fun h' tk hk=>?_⟩)
 ·have hP:(bs.map Value.bool).toArray[i]?=some v:=hP
  rw [List.getElem?_toArray,List.getElem?_map] at hP
  cases hi:bs[i]? with
  | none=>rw [hi] at hP; cases hP
  | some c =>
   rw [hi] at hP
   cases hP
   simp only [hi,Option.getD_some] at hQ
   exact wpAny_truthy_bool hQ
 ·have kept:∀ c o,s.heap.get? c=some o->h'.get? c=some o:=fun c o e=>hk c o (fun hm=>by rw [List.mem_singleton.mp hm] at e; exact Nat.lt_irrefl _ (Heap.lt_size e)) (Heap.get?_push_of_some _ e)
  have ea:((List.range (bs.map Value.bool).toArray.size).all fun i=>(bs[i]?).getD true)=b:=by
   rw [List.size_toArray,List.length_map,Qgt,e2]
  rw [ea]
  exact⟨.bl b,H,I.kept kept,rfl,qq⟩
theorem QjK (hc:X.calm=true) (hm:X.mg "all" = none) (he:PE3 ca X e me) (hg:Gl X "all":=by rfl) (hs:starEach [e] X.env=[(false,eval e X.env)]:=by rfl) (hpl:(backTo pos (starEach [] X.env)).any (·.1)=false:=by rfl) :
  PE3 ca X (.Call (.Name "all" p) [e] [] pos) (mOp1 pAll me) :=
 QjF (r:=fun xs H Q=>∃ p vs ds μ b,xs=[V.ref p]∧SqL X.K H p vs∧Dens X.K μ H vs ds∧allB ds=some b∧Q (.bl b) H) (fun pn Φ=>Qgu (X:=xat X ca pn Φ) hc) hm boot_all (fun Φ σ H μ g y d Q r q pp=>by
  unfold pAll at pp
  cases q with
  | @ref n t hn =>
   dsimp only at pp
   cases hgn:g[n]? with
   | none=>rw [hgn] at pp; exact pp.elim
   | some ob =>
    rw [hgn] at pp
    obtain⟨t',ht',orp⟩:=r.addr hgn
    rw [hn] at ht'; cases ht'
    cases ob with
    | lst ds =>
     obtain⟨vs,hH,q⟩:=orp
     dsimp only at pp
     cases hb:allB ds with
     | none=>rw [hb] at pp; exact pp.elim
     | some b=>rw [hb] at pp; exact⟨t,vs,ds,μ,b,rfl,.of hH,q,hb,pp _ H μ .refl r (.bl _)⟩
    | _=>exact pp.elim
  | _=>exact pp.elim) he hg (by decide) (by decide) hs hpl
theorem QhO {K:PySem.W.Frag} {Φ:XS} {r r':R2} {f f':D->D->G->Res D} (h1:Y3 K ca r f) (h2:Y3 K ca r' f') (σ:L2.St) (H:Hp) (Q:VK) (h:up K ca Φ (QbF f f' ma mb mc) σ H Q):QiJ r r' (up K ca Φ ma) (up K ca Φ mb) (up K ca Φ mc) σ H Q:=by
 obtain⟨σ3,g,μ,R,p⟩:=h
 refine Q9 (Y1 R p) fun x H1 ⟨dx,g1,μ1,e1,R1,q1,p1⟩=>?_
 refine Q9 (Y1 R1 p1) fun y H2 ⟨dy,g2,μ2,e2,R2,q2,p2⟩=>?_
 refine h1 Φ σ H2 μ2 g2 x y dx dy _ R2.g (q1.mono e2) q2 ?_
 cases hf:f dx dy g2 with
 | raise _ _=>rw [hf] at p2; exact p2
 | stuck=>rw [hf] at p2; exact p2.elim
 | ok z g3 =>
  rw [hf,Res.bind_ok] at p2
  intro v H3 μ3 e3 r3 q3
  cases q3 with
  | bl t =>
   refine⟨t,rfl,?_⟩
   cases t with
   | true =>
    rw [if_pos rfl]
    dsimp only at p2
    refine Q9 (Y1 (R2.go e3 r3) (p2.go e3)) fun w' H4 ⟨dw,g4,μ4,e4,R4,q4,p4⟩=>?_
    exact h2 Φ σ H4 μ4 g4 y w' dy dw Q R4.g ((q2.mono e3).mono e4) q4 p4
   | false =>
    rw [if_neg Bool.false_ne_true]
    exact p2 _ H3 μ3 e3 r3 (.bl _)
  | _=>exact p2.elim
theorem Qly (ha:PE3 ca X a ma) (hb:PE3 ca X b mb) (hc:PE3 ca X c mc) (hm:lastMarks [.LtE,.Lt] [b,c]=false:=by with_unfolding_all rfl):PE3 ca X (.Compare a [.LtE,.Lt] [b,c] pos) (QbF pLe pLt ma mb mc) :=
 fun pn Φ=>Q7 (Qhw (X:=xat X ca pn Φ) Qk0 QkZ (ha pn Φ) (hb pn Φ) (hc pn Φ) hm) (QhO (YS _) (YS _))
theorem QiT {K:PySem.W.Frag} {μ:List Addr} {H:Hp} {v:V} {d:D} (q:Den K μ H v d) (h:Qbx d=true):Qbv v=true:=by cases q <;> first | rfl | cases h
theorem Qgv {K:PySem.W.Frag} {μ:List Addr} {H:Hp}:∀ {vs:List V} {ds:List D},Dens K μ H vs ds->ds.all Qbx=true->vs.all Qbv=true
 | _,_,.nil,_=>rfl
 | _,_,.cons q qs,h=>by
  rw [List.all_cons,Bool.and_eq_true] at h ⊢
  exact⟨QiT q h.1,Qgv qs h.2⟩
theorem QmB {K:PySem.W.Frag} {μ:List Addr} {H:Hp} {v w:V} {d e:D} (q:Den K μ H v d) (q':Den K μ H w e) (h:Qbx d=true) (h':Qbx e=true):eqV v w=eqF d e:=by
 cases q <;> cases q' <;> first | rfl | cases h | cases h'
theorem Qlz {K:PySem.W.Frag} {μ:List Addr} {H:Hp} {w:V} {e:D} (q':Den K μ H w e) (h':Qbx e=true):∀ {vs:List V} {ds:List D},Dens K μ H vs ds->ds.all Qbx=true->(vs.any fun y=>eqV y w)=ds.any fun d=>eqF d e
 | _,_,.nil,_=>rfl
 | _,_,.cons q qs,h=>by
  rw [List.all_cons,Bool.and_eq_true] at h
  rw [List.any_cons,List.any_cons,QmB q q' h.1 h',Qlz q' h' qs h.2]
theorem QjL {K:PySem.W.Frag} (neg:Bool):Y3 K ca (rIn K neg) (pIn neg):=by
 intro Φ σ H μ g x y dx dy Q r qx qy p
 unfold pIn at p
 cases hs:QG g dy with
 | none=>rw [hs] at p; exact p.elim
 | some pr =>
  obtain⟨bb,ds⟩:=pr
  rw [hs] at p
  dsimp only at p
  by_cases z:Qbx dx=true∧ds.all Qbx=true
  ·rw [if_pos z] at p
   obtain⟨a,vs,rfl,sq,qs⟩:=Ya r qy hs
   refine⟨a,vs,rfl,?_,QiT qx z.1,Qgv qs z.2,p _ H μ .refl r ?_⟩
   ·cases bb
    ·exact .inr sq
    ·exact .inl sq
   ·unfold inV
    rw [Qlz qx z.1 qs z.2]
    cases neg <;> exact .bl _
  ·rw [if_neg z] at p; exact p.elim
theorem r_in (ha:PE3 ca X a ma) (hb:PE3 ca X b mb) (hm:behindInMarks .In b=false:=by rfl):PE3 ca X (.Compare a [.In] [b] pos) (mOp2 (pIn false) ma mb):=Qjw (fun _ _=>Qf2) (QjL false) ha hb hm
end
end L3
end
section
namespace L3
open PySem PySem.Spec PyProof.Rows L2
section
variable {prog:Program} {w:World} {A:Around} {E:Value->Shared->Prop} {s:Shared}
theorem Qag {t sl:Addr} {items:Array Value} {vl vu:Value} {lo hi:Option Int} {Q:Value->Shared->Prop} (ht:IsTup s.heap t items) (hs:s.heap.IsSliceOf sl vl vu .none) (pl:IsPart vl lo) (pu:IsPart vu hi)
  (h1:HT.sIx items.size 0 lo=0) (h2:HT.sIx items.size items.size hi=items.size) (h:Q (.ref t) s):wpAny (model prog w) A (getItem (.ref t) (.ref sl)) Q E s:=by
 obtain⟨os,hos,hcs,hds⟩:=id hs
 have hTs:s.TypeIs (.ref sl) "slice":=⟨os,hos,hcs⟩
 unfold getItem
 try with_reducible refine wpAny_holding ?_
 first | refine wpAny_bind (wpAny_pure ?_) | skip
 refine wpAny_bind (wpAny_sequenceKey ht.typeIs (by decide) ?_)
 refine wpAny_bind (wpAny_callSpecial?_slot (name:=Str.ofString "__getitem__") ht.typeIs PyProof.Rows.slot_tuple_getitem (wpAny_call_entry PyProof.Rows.slot_tuple_getitem ht.typeIs entry_tuple_getitem ?_ (args_tuple_getitem _ _)))
 show wpAny _ _ (Builtin.Tuple.tupleItemsOf (.ref t) >>= _) _ _ s
 refine wpAny_bind (tupleItemsOf_ ht (wpAny_bind (wpAny_typeOf hTs ?_)))
 rw [if_pos (by decide)]
 refine wpAny_bind (HT.sliceApplied_gen hs pl pu ?_)
 rw [h1,h2]
 show wpAny _ _ (if (((0:Nat):Int) == 0 && (1:Int) == 1 && (items.size - 0) == items.size)=true then _ else _) _ _ s
 rw [if_pos (by simp)]
 unfold Builtin.Tuple.tupleIsExact
 refine wpAny_bind (wpAny_bind (wpAny_typeOf ht.typeIs (wpAny_pure ?_)))
 rw [if_pos (by decide)]
 exact wpAny_bind (wpAny_rule (wpAny_pure ⟨_,rfl,wpAny_pure h⟩))
end
theorem QhP (n d:Nat) (o:Option Int):HT.sIx n d o=sIxD n d o:=by cases o <;> rfl
theorem Dens.cut {K:PySem.W.Frag} {μ:List Addr} {H:Hp} {vs:List V} {ds:List D} (lo hi:Option Int) (h:Dens K μ H vs ds):Dens K μ H (cutV vs lo hi) (cutD ds lo hi):=by
 unfold cutV cutD
 rw [QhP,QhP,h.length]
 exact(h.drop _).take _
section
variable {X:Cx} {ca:Nat->Addr} {e:Expr} {me:ME} {lo hi:Option Expr} {ml mh:MO} {pos p2:Pos}
theorem Qgw:SlR X (fun x lo hi H Q=>∃ a xs,x=.ref a∧SqT X.K H a xs∧(HT.sIx xs.length 0 lo=0∧HT.sIx xs.length xs.length hi=xs.length)∧Q (.ref a) H):=by
 intro pins s σ H x v vl vu lo hi sl Q I rx hs pl pu h
 obtain⟨a,xs,rfl,hx,hw,q⟩:=h
 cases rx
 obtain⟨its,r,ht,hz⟩:=I.tuple hx
 have hlen:its.toArray.size=xs.length:=by rw [List.size_toArray]; exact r.length.symm
 refine⟨"tuple",_,PyProof.Rows.slot_tuple_getitem.lookup,ht.typeIs,?_⟩
 exact Qag ht hs pl pu (by rw [hlen]; exact hw.1) (by rw [hlen]; exact hw.2) ⟨.ref a,H,I,rfl,q⟩
noncomputable def upO (K:PySem.W.Frag) (ca:Nat->Addr) (Φ:XS) (m:MO):TO:=fun σ H Q=>∃ σ3 g μ,Rep K ca μ σ3 g σ H∧match m σ3 g with
 | .ok o g'=>∀ H' μ',Ext K μ H μ' H'->GRep K ca μ' H' g'->Q o H'
 | .raise x g'=>RaP K ca Φ σ H μ x g'
 | .stuck=>False
noncomputable def PO3 (ca:Nat->Addr) (X:Cx) (e:Option Expr) (m:MO):Prop:=∀ pn Φ,PO (xat X ca pn Φ) e (upO X.K ca Φ m)
theorem Qey:PO3 ca X none Jy:=fun pn Φ pins s σ H Q I ⟨_,_,μ,R,p⟩=>Qjp (X:=xat X ca pn Φ) pins s σ H Q I (p H μ .refl R.g)
theorem QiU (he:PE3 ca X e me):PO3 ca X (some e) (QcR me):=fun pn Φ pins s σ H Q I hQ=>by
 obtain⟨σ3,g,μ,R,p⟩:=hQ
 refine Qjq (X:=xat X ca pn Φ) (he pn Φ) pins s σ H Q I ⟨σ3,g,μ,R,?_⟩
 unfold QcR at p
 cases hm:me σ3 g with
 | raise _ _=>rw [hm] at p; exact p
 | stuck=>rw [hm] at p; exact p
 | ok d g1 =>
  rw [hm,Res.bind_ok] at p
  intro v H1 μ1 e1 r1 q1
  cases q1 with
  | int i=>exact⟨i,rfl,p H1 μ1 e1 r1⟩
  | _=>exact p.elim
theorem QjM {α:Type} (xs:List α) (lo hi:Option Int) (h1:sIxD xs.length 0 lo=0) (h2:sIxD xs.length xs.length hi=xs.length):cutD xs lo hi=xs:=by
 unfold cutD
 rw [h1,h2]; simp
theorem Qgx (he:PE3 ca X e me) (hl:PO3 ca X lo ml) (hh:PO3 ca X hi mh):PE3 ca X (.Subscript e (.Slice lo hi none p2) pos) (Qa0 me ml mh):=fun pn Φ =>
 Q7 (QhB (X:=xat X ca pn Φ) ((sl_tup.or Qgw).or Qjs) (he pn Φ) (hl pn Φ) (hh pn Φ)) fun σ H Q ⟨σ3,g,μ,R,p⟩=>Q9 (Y1 R p) fun x H1 hQ=>by
  obtain⟨d,g1,μ1,e1,R1,q1,p1⟩:=hQ
  refine⟨σ3,g1,μ1,R1,?_⟩
  cases hm:ml σ3 g1 with
  | raise _ _=>rw [hm] at p1; exact p1
  | stuck=>rw [hm] at p1; exact p1
  | ok l g2 =>
   rw [hm,Res.bind_ok] at p1
   intro H2 μ2 e2 r2
   refine⟨σ3,g2,μ2,R1.go e2 r2,?_⟩
   cases hm2:mh σ3 g2 with
   | raise _ _=>rw [hm2] at p1; exact RaP.go e2 p1
   | stuck=>rw [hm2] at p1; exact p1
   | ok u g3 =>
    rw [hm2,Res.bind_ok] at p1
    intro H3 μ3 e3 r3
    have p3:=Post.go (e2.trans e3) p1
    have q3:=(q1.mono e2).mono e3
    unfold QiM at p3
    cases q3 with
    | @tup a vs ds ht hs =>
     by_cases hw:HT.sIx vs.length 0 l=0∧HT.sIx vs.length vs.length u=vs.length
     ·refine .inl (.inr ⟨a,vs,rfl,ht,hw,p3 _ H3 μ3 .refl r3 ?_⟩)
      rw [QjM ds l u (by rw [← QhP,← hs.length]; exact hw.1) (by rw [← QhP,← hs.length]; exact hw.2)]
      exact .tup ht hs
     ·exact .inl (.inl ⟨a,vs,rfl,ht,hw,fun t ht'=>p3 _ _ μ3 (Q8 ht') (r3.new ht') (.tup (.of Qn) ((hs.cut l u).mono (Q8 ht')))⟩)
    | @fl a vs ds ht hs =>
     refine .inr ⟨a,vs,rfl,ht.sq,fun t ht'=>p3 _ _ (μ3++[t]) (QE ht') (r3.push ht' ⟨_,Qn,(hs.cut l u).mono (QE ht')⟩) (.ref ?_)⟩
     rw [← r3.len]; simp
    | _=>exact p3.elim
end
end L3
end
section
namespace L3
open PySem PySem.Spec PyProof.Rows L2
abbrev bmV:List Value:=[.type "ValueError",.type "Exception",.type "BaseException",.type "object"]
structure ExK (K:PySem.W.Frag) (C:Addr):Prop where
 ga:PySem.W.findIn K (.ref C) "__getattribute__" = some (some (.builtin "BaseException.__getattribute__"))
 gx:PySem.W.findIn K (.ref C) "__getattr__" = some none
 cl:PySem.W.findIn K (.ref C) "__class__" = some (some (.builtin "object.__class__"))
 gt:PySem.W.specialIn K (.builtin "object.__class__") "__get__" = some (some (.builtin "getset_descriptor.__get__"))
 tk:PySem.W.takesIn K (.builtin "object.__class__")=some true
 mr:PySem.W.mroIn K C (.type "object")=some true
 sb:PySem.W.subIn K (.ref C) (.type "BaseException")=some true
 ci:(PySem.W.clsIn K C).isSome=true
section
variable {prog:Program} {w:World} {A:Around} {E:Value->Shared->Prop} {s:Shared} {K:PySem.W.Frag} {C e:Addr} {oe:Obj} {vs:Array Value}
theorem Qez {h:Heap} (hx:h.get? e=some oe) (hc:oe.cls=.ref C) (hd:oe.data=.fields vs) (hn:oe.dict=none):PySem.W.InstAt h e oe C none :=
 ⟨hx,hc,by obtain⟨c,d,dt,sl⟩:=oe; obtain rfl:dt=_:=hd; rfl,by rw [hn]; trivial⟩
theorem QjN (F:ExK K C):PySem.W.findObj K C none "__class__" = some (.bind (.builtin "getset_descriptor.__get__") (.builtin "object.__class__")):=by
 obtain⟨cd,hc⟩:=Option.isSome_iff_exists.mp F.ci
 unfold PySem.W.findObj
 rw [hc,Option.bind_some,F.cl,Option.bind_some]
 simp [F.gt,F.tk]
theorem QhQ {nm:Value} {Q:Unit->Shared->Prop} (X:K.In s.heap) (F:ExK K C) (I:PySem.W.InstAt s.heap e oe C none) (hq:Q () s):wpAny (model prog w) A (checkBuiltinCall "BaseException.__getattribute__" ⟨[.ref e,nm],[]⟩) Q E s:=by
 obtain⟨h,g,d,t,os⟩:=s
 have hk:builtinKind "BaseException.__getattribute__" = some .slot:=by decide +kernel
 have hsplit:splitId "BaseException.__getattribute__" = some ("BaseException", "__getattribute__"):=by decide +kernel
 have L0:=I.type (M:=model prog w)
 have L1:=PySem.W.looks_subIn (M:=model prog w) X F.sb
 have ha:=PySem.F.args_bexc_ga (.ref e) nm
 simp only [checkBuiltinCall,hk,hsplit]
 unfold isInstance
 refine wpAny_bind (wpAny_bind (L0.at (L1.at ?_)))
 repeat (first | exact hq | wp_step)
theorem Qgy {Q:Option Value->Shared->Prop} (X:K.In s.heap) (F:ExK K C) (I:PySem.W.InstAt s.heap e oe C none) (h:Q (some (.ref C)) { s with toks:=s.toks+1 }):wpAny (model prog w) A (getAttr? (.ref e) "__class__") Q E s:=by
 obtain⟨hh,g,d,t,os⟩:=s
 have L0:=I.type (M:=model prog w)
 have L1:=PySem.W.looks_findIn (M:=model prog w) X F.ga
 have L2:=PySem.W.looks_findIn (M:=model prog w) X F.gx
 have L3:=PySem.W.looks_find (M:=model prog w) X I (QjN F)
 have hb:=PySem.F.attr_ValueError.ga.bind (.ref e)
 unfold getAttr? getAttrBy? getAttrBy
 refine wpAny_bind (wpAny_mkText (wpAny_bind (wpAny_attempt (wpAny_holding (wpAny_bind (L0.at (wpAny_bind (L1.at ?_))))))))
 show wpAny _ _ (getAttrByItsOwn _ _ _ _ _ _) _ _ _
 unfold getAttrByItsOwn hookBefore callGetattribute boundAndCalled
 refine wpAny_bind (L2.at ?_)
 refine wpAny_bind (wpAny_attempt (wpAny_holding ?_))
 show wpAny _ _ (bindSpecial (.builtin "BaseException.__getattribute__") (.ref e) >>= _) _ _ _
 rw [hb]
 refine wpAny_bind (wpAny_pure ?_)
 refine wpAny_call (codeAny_call_builtin PySem.F.attr_ValueError.ga.plain PySem.F.entry_bexc_ga (QhQ (s:=⟨hh,g,d,t+1,os⟩) X F I ?_))
 unfold Builtin.«object.__getattribute__»
 refine wpAny_bind (wpAny_of_eq (a:=(Value.ref e,[Value.str (Str.ofString "__class__") t])) rfl ?_)
 refine wpAny_bind (wpAny_of_eq (a:=Str.ofString "__class__") rfl ?_)
 refine wpAny_bind (L0.at (wpAny_bind (L3.at ?_)))
 show wpAny _ _ (Builtin.ObjectAttr.bindTo (.builtin "getset_descriptor.__get__") (.builtin "object.__class__") (.ref e) (.ref C)) _ _ _
 refine wpAny_bind (wpAny_holding (wpAny_call (PySem.W.class_get (s:=⟨hh,g,d,t+1,os⟩) (od:=none) X I F.mr ?_)))
 refine wpAny_pure ?_
 show wpAny (model prog w) A (handedOut (Value.ref C)) _ _ _
 exact wpAny_pure (wpAny_pure h)
theorem QhR (F:ExK K C):PySem.W.KitX K (.ref e) (.ref C) (fun h=>∃ o vs,h.get? e=some o∧(o.cls=.ref C∧o.dict=none)∧o.data=.fields vs) where
 ty:=fun M h _ ⟨o,vs,h1,h2,h3⟩=>(Qez h1 h2.1 h3 h2.2).type
 it:=fun _ _ X _=>by
  obtain⟨cd,hc⟩:=Option.isSome_iff_exists.mp F.ci
  unfold PySem.W.clsIn at hc
  split at hc
  ·rename_i c' d' cd' sl' ho
   intro A' Q' E' s' k q
   unfold isType loadHead
   exact wpAny_bind (wpAny_loadPart (k _ _ (X _ _ ho)) (wpAny_pure q))
  ·cases hc
 ne:=fun h tp dd its n sl X htp=>by
  obtain⟨cd,hc⟩:=Option.isSome_iff_exists.mp F.ci
  refine Bool.eq_false_iff.mpr fun q=>?_
  have z:C=tp:=Value.ref.inj (beq_iff_eq.mp q)
  subst z
  unfold PySem.W.clsIn at hc
  split at hc
  ·rename_i c' d' cd' sl' ho
   cases (X _ _ ho).symm.trans htp
  ·cases hc
 ca:=fun X ⟨o,vs,h1,h2,h3⟩ k=>Qgy X F (Qez h1 h2.1 h3 h2.2) k
end
structure IsX (K:PySem.W.Frag) (ca:Nat->Addr) (T:Value) (all cs:List Nat):Prop where
 ex:∀ c∈all,ExK K (ca c)
 an:∀ c∈all,PySem.W.kitOne K (.ref (ca c)) T=some (decide (c∈cs))
 no:PySem.W.kitOne K (.type "NoneType") T=some false
section
variable {X:Cx} {ca:Nat->Addr} {e:Expr} {me:ME} {pos p p2:Pos} {all cs:List Nat}
theorem QbJ {u:V} {T:Value} (hu:∀ v,L2.RelV u v->v=T) (h:IsX X.K ca T all cs):Qac X (.builtin "isinstance") (fun xs H Q=>∃ x g μ d b,xs=[x,u]∧GRep X.K ca μ H g∧Den X.K μ H x d∧Zn all cs d g=.ok (.bl b) g∧Q (.bl b) H):=by
 intro pins s σ H xs us Q I rv z
 obtain⟨x,g,μ,d,b,rfl,r,q,ht,qq⟩:=z
 obtain⟨v,v2,rfl,rx,r2⟩:=rv.two
 have e2:v2=T:=hu v2 r2
 subst e2
 have fin:∀ tk,EP X pins σ Q (.bool b) { s with toks:=tk }:=fun tk=>⟨.bl _,H,I.tok tk,rfl,qq⟩
 cases q with
 | non=>cases ht; exact Yj I rx .non h.no fin
 | @ref n a hn =>
  unfold Zn at ht
  dsimp only at ht
  cases hg:g[n]? with
  | none=>rw [hg] at ht; cases ht
  | some o =>
   rw [hg] at ht
   obtain⟨a',ha',ob⟩:=r.addr hg
   rw [hn] at ha'; cases ha'
   cases o with
   | exc ex =>
    dsimp only at ht
    by_cases hm:ex.1∈all
    ·rw [if_pos hm] at ht
     cases ht
     cases rx
     obtain⟨⟨o,vs,h1,h2,h3⟩,_⟩:=I.hok a _ ob
     exact PySem.W.kia_one (QhR (h.ex _ hm)) I.kIn ⟨o,vs,h1,h2,h3⟩ (h.an _ hm) (fun z=>nomatch z) fin
    ·rw [if_neg hm] at ht; cases ht
   | _=>cases ht
 | _=>cases ht
theorem QeA {K:PySem.W.Frag} {Φ:XS} {u:V} (σ:L2.St) (H:Hp) (Q:VK) (h:up K ca Φ (mOp1 (Zn all cs) me) σ H Q):up K ca Φ me σ H fun y H1=>∃ x g μ d b,[y,u]=[x,u]∧GRep K ca μ H1 g∧Den K μ H1 x d∧Zn all cs d g=.ok (.bl b) g∧Q (.bl b) H1:=by
 obtain⟨σ3,g,μ,R,q⟩:=h
 refine Q9 (Y1 R q) fun y H1 ⟨d,g1,μ1,e1,R1,q1,p1⟩=>?_
 have:∃ b,Zn all cs d g1=.ok (.bl b) g1:=by
  unfold Zn at p1 ⊢
  cases d with
  | non=>exact⟨false,rfl⟩
  | ref n =>
   dsimp only at p1 ⊢
   cases hg:g1[n]? with
   | none=>rw [hg] at p1; exact p1.elim
   | some o =>
    rw [hg] at p1
    cases o with
    | exc ex =>
     dsimp only at p1 ⊢
     by_cases hm:ex.1∈all
     ·rw [if_pos hm]; exact⟨_,rfl⟩
     ·rw [if_neg hm] at p1; exact p1.elim
    | _=>exact p1.elim
  | _=>exact p1.elim
 obtain⟨b,hb⟩:=this
 rw [hb] at p1
 exact⟨y,g1,μ1,d,b,rfl,R1.g,q1,hb,p1 _ H1 μ1 .refl R1.g (.bl _)⟩
theorem YC {x:Str} {C:Addr} (hi:X.mg "isinstance" = none) (hC:X.mg x=some (.ref C)∧IsX X.K ca (.ref C) all cs) (he:PE3 ca X e me) (hgi:Gl X "isinstance":=by rfl) (hg:Gl X x:=by rfl) (hdb:(x == ("__debug__" : Str))=false:=by decide)
  (hs:starEach [e,.Name x p2] X.env=(false,eval e X.env)::starEach [.Name x p2] X.env:=by rfl) (hs2:starEach [.Name x p2] X.env=(false,eval (.Name x p2) X.env)::starEach [] X.env:=by rfl) (hpl:(backTo pos (starEach [.Name x p2] X.env)).any (·.1)=false:=by rfl) :
  PE3 ca X (.Call (.Name "isinstance" p) [e,.Name x p2] [] pos) (mOp1 (Zn all cs) me):=fun pn Φ =>
 Q7 (QaF (X:=xat X ca pn Φ) (QbJ (ca:=ca) (u:=.ref C) (fun _ h=>h) hC.2) hgi hi boot_isinstance (Jx (X:=xat X ca pn Φ) (he pn Φ) (Jx (X:=xat X ca pn Φ) (Qdz (X:=xat X ca pn Φ) (v:=.ref C) hg hC.1 rfl hdb) Qel hs2) hs) (by decide) (by decide) hs hpl) fun σ H Q h=>QeA σ H Q h
theorem QjO {x:Str} {T:String} (hi:X.mg "isinstance" = none) (hm:X.mg x=none) (hC:bootBuiltins x=some (.type T)∧IsX X.K ca (.type T) all cs) (he:PE3 ca X e me) (hgi:Gl X "isinstance":=by rfl) (hg:Gl X x:=by rfl) (hnm:x ≠ "__name__":=by decide) (hdb:(x == ("__debug__" : Str))=false:=by decide)
  (hs:starEach [e,.Name x p2] X.env=(false,eval e X.env)::starEach [.Name x p2] X.env:=by rfl) (hs2:starEach [.Name x p2] X.env=(false,eval (.Name x p2) X.env)::starEach [] X.env:=by rfl) (hpl:(backTo pos (starEach [.Name x p2] X.env)).any (·.1)=false:=by rfl) :
  PE3 ca X (.Call (.Name "isinstance" p) [e,.Name x p2] [] pos) (mOp1 (Zn all cs) me):=fun pn Φ =>
 Q7 (QaF (X:=xat X ca pn Φ) (QbJ (ca:=ca) (u:=.ty T) (fun _ h=>h) hC.2) hgi hi boot_isinstance (Jx (X:=xat X ca pn Φ) (he pn Φ) (Jx (X:=xat X ca pn Φ) (QfP (X:=xat X ca pn Φ) (v:=.ty T) hg hm hC.1 rfl hnm hdb) Qel hs2) hs) (by decide) (by decide) hs hpl) fun σ H Q h=>QeA σ H Q h
end
section
variable {K:PySem.W.Frag} {C:Addr} {x:Str} {mg:Str->Option Value} {h:Heap}
theorem QjP (X:K.In h) (e:mg x=some (.ref C)) (q:PySem.W.excIn K C bmV "ValueError.__new__" = true):OwnCls x C bmV "ValueError.__new__" mg h:=by
 refine⟨e,?_⟩
 unfold PySem.W.excIn at q
 split at q
 ·rename_i dd cd sl ho
  split at q
  ·rename_i C' bm k0 k1 k2 k3 n k5 hm hs
   simp only [Bool.and_eq_true,beq_iff_eq,Bool.not_eq_true'] at q
   obtain⟨⟨⟨⟨⟨rfl,rfl⟩,hdel⟩,ht⟩,hok⟩,hni⟩:=q
   obtain⟨nm,bs,mro,ns,qn,hd,sn,sub,ab,col,del⟩:=cd
   dsimp only at hm hdel hok hni
   subst hm hdel
   have hsl:sl = #[k0,k1,k2,k3,some (.builtin "ValueError.__new__"),k5]:=by
    obtain⟨l⟩:=sl
    simp only at hs
    rw [hs]
   subst hsl
   exact⟨bm,ns,nm,qn,bs,hd,sn,sub,ab,col,dd,k0,k1,k2,k3,k5,_,X _ _ ho,.of_isNs (PySem.W.isNs_of_in X hok),PySem.W.nsMap_none_of_in X hok hni,PySem.W.tail_of_in X ht⟩
  ·cases q
 ·cases q
end
theorem Inv.there' {X:Cx} {pins:List (Addr×Obj)} {σ:L2.St} {H:Hp} {s:Shared} {a:Addr} {o:HO} (I:Inv X pins σ H s) (h:H a=some o):∃ u,s.heap.get? a=some u:=by
 have:=I.hok a o h
 cases o with
 | lst xs=>obtain⟨_,_,_,_,e⟩:=this; exact⟨_,e⟩
 | tup xs=>obtain⟨_,_,_,u,e,_⟩:=this; exact⟨u,e⟩
 | dK kvs=>obtain⟨_,_,_,_,u,_,_,e,_⟩:=this; exact⟨u,e⟩
 | dT kvs=>obtain⟨_,_,_,_,u,_,_,e,_⟩:=this; exact⟨u,e⟩
 | set S n=>obtain⟨u,_,_,_,e,_⟩:=this; exact⟨u,e⟩
 | ins C dx fs=>obtain⟨_,_,_,e,_⟩:=this; exact⟨_,e⟩
 | own y=>exact this
 | xd fs=>obtain⟨_,⟨_,_,_,e,_⟩,_⟩:=this; exact⟨_,e⟩
 | met f x=>exact⟨_,this⟩
 | rng lo hi=>obtain⟨_,_,_,e⟩:=this; exact⟨_,e⟩
 | frz u v=>exact⟨_,this.1⟩
 | tbl ps=>exact⟨_,this⟩
 | ext φ=>exact this.2.1
structure RaH (K:PySem.W.Frag) (mg:Str->Option Value) (ca:Nat->Addr) (c:Nat) (x:Str):Prop where
 at':mg x=some (.ref (ca c))
 ex:PySem.W.excIn K (ca c) bmV "ValueError.__new__" = true
section
variable {X:Cx} {ca:Nat->Addr} {e:Expr} {es:List Expr} {mr:MA} {np cpos pos:Pos} {c:Nat} {x:Str}
theorem QdH (h:RaH X.K X.mg ca c x) (hh:X.A.handled=none) (ha:PA3 ca X (e::es) mr) (hg:Gl X x:=by rfl) (hdb:(x == ("__debug__" : Str))=false:=by decide)
  (he:starEach (e::es) X.env=(false,eval e X.env)::starEach es X.env:=by rfl) (hpl:(backTo cpos (starEach es X.env)).any (·.1)=false:=by rfl):PS3 ca X (.Raise (some (.Call (.Name x np) (e::es) [] cpos)) none pos) (QcO c mr):=by
 intro pn Φ pins s σ H En I ⟨σ3,g,μ,R,p⟩
 obtain⟨bm,N,nm,q,bs,hdct,sn,sub,ab,col,dd,k0,k1,k2,k3,k5,mN,hC,hN,hni,T⟩:=(QjP (h:=X.base) I.ok.mod.kin h.at' h.ex).obj
 refine wpAny_Raise_call_subT (C:=ca c) (nm:=nm) (q:=q) (N:=N) (bs:=bs) (bm:=bm) (hdct:=hdct) (sn:=sn) (sub:=sub) (ab:=ab) (col:=col) (dd:=dd) (k0:=k0) (k1:=k1) (k2:=k2) (k3:=k3) (k5:=k5)
  PySem.F.excBase_ValueError (mN:=mN) (T.hasType PySem.F.excBase_ValueError.hasBase) hh ?_ hni (QaR I hg h.at' ⟨rfl,?_⟩ hdb)
 ·show(backTo cpos (starEach (e::es) X.env)).any (·.1)=false
  rw [he]
  show(false || (backTo cpos (starEach es X.env)).any (·.1))=false
  rw [hpl]; rfl
 ·have z:upA X.K ca Φ mr σ H fun vs H1=>vs.length≤sizeLine∧Φ (c,none) σ H1:=by
   refine⟨σ3,g,μ,R,?_⟩
   unfold QcO at p
   cases hm:mr σ3 g with
   | raise _ _=>rw [hm] at p; exact RaP.stmt R p
   | stuck=>rw [hm] at p; exact p
   | ok ds g1 =>
    rw [hm] at p
    dsimp only at p
    intro vs H1 μ1 e1 r1 q1
    by_cases hz:ds.length≤SZ
    ·rw [if_pos hz] at p
     exact⟨q1.sz hz,p σ H1 μ1 e1 (R.go e1 r1)⟩
    ·rw [if_neg hz] at p; exact p.elim
  have az:=ha pn Φ cpos pins s σ H _ I z
  have he':starEach (e::es) (xat X ca pn Φ).env=(false,eval e X.env)::starEach es X.env:=he
  show wpAny _ _ (evalArgs (.ref (ca c)) true (backTo cpos (starEach (e::es) X.env)) []) _ _ s
  rw [he'] at az
  rw [he]
  refine Calls.evalArgs_plain (wpAny_mono az (fun us s2 ⟨vs,H1,I1,r1,hz,hΦ⟩=>⟨rfl,by rw [← r1.length]; exact hz,I1.bk _ _ hC,hN.keeps I1.bk,T.keeps I1.bk,fun h' ea hm=>?_⟩) fun _ _ y=>y)
  have I2:Inv (xon X pn) [] σ H1 s2:=(QiP I1).pins_of fun p hp=>absurd hp (by simp)
  have I3:Inv (xon X pn) [] σ H1 { s2 with heap:=h' }:=I2.kept (t':=s2.toks) hm.keeps
  have hn:H1 ea=none:=by
   cases hq:H1 ea with
   | none=>rfl
   | some o =>
    obtain⟨o',ho'⟩:=Inv.there' I2 hq
    rw [hm.new] at ho'; cases ho'
  obtain⟨t,ht,_⟩:=hm.there
  exact⟨ea,(c,none),σ,H1,rfl,I3,⟨Qer I2 hm.new hn,rfl,_,_,ht,⟨rfl,rfl⟩,rfl,by simp,.inl rfl⟩,hΦ⟩
end
end L3
end
section
namespace L3
open PySem PySem.Spec PyProof.Rows L2
structure CatX (K:PySem.W.Frag) (ca:Nat->Addr) (C:Addr) (cs no:List Nat):Prop where
 ci:(PySem.W.clsIn K C).isSome=true
 ty:PySem.W.typeIn K (.ref C)=some (.type "type")
 sb:PySem.W.subIn K (.ref C) (.type "BaseException")=some true
 yes:∀ c∈cs,PySem.W.subIn K (.ref (ca c)) (.ref C)=some true
 no':∀ c∈no,PySem.W.subIn K (.ref (ca c)) (.ref C)=some false
section
variable {prog:Program} {w:World} {A:Around} {E:Value->Shared->Prop} {s:Shared} {K:PySem.W.Frag} {ca:Nat->Addr} {C D e:Addr} {oe:Obj} {cs no:List Nat} {b:Bool}
theorem Qgz {Q:Bool->Shared->Prop} (X:K.In s.heap) (F:CatX K ca C cs no) (hx:s.heap.get? e=some oe) (hc:oe.cls=.ref D) (hs:PySem.W.subIn K (.ref D) (.ref C)=some b) (h:Q b s):wpAny (model prog w) A (excMatches (.ref e) (.ref C)) Q E s:=by
 obtain⟨hh,g,d,t,os⟩:=s
 have L0:=PySem.W.looks_typeIn (M:=model prog w) X F.ty
 have L1:=PySem.W.looks_subIn (M:=model prog w) X F.sb
 have L2:=PySem.W.looks_subIn (M:=model prog w) X hs
 have L3:PySem.W.Looks (model prog w) hh (isType (.ref C)) true:=by
  obtain⟨cd,hc⟩:=Option.isSome_iff_exists.mp F.ci
  unfold PySem.W.clsIn at hc
  split at hc
  ·rename_i c' d' cd' sl' ho
   intro A' Q' E' s' k q
   unfold isType loadHead
   exact wpAny_bind (wpAny_loadPart (k _ _ (X _ _ ho)) (wpAny_pure q))
  ·cases hc
 have f:=tc_notTuple
 unfold excMatches isInstance
 refine wpAny_bind (wpAny_bind (L0.at (wpAny_of_eq f ?_)))
 simp only [Bool.false_eq_true,if_false]
 refine wpAny_bind (wpAny_pure ?_)
 simp only [List.forIn_cons,List.forIn_nil]
 unfold isExcClass
 refine wpAny_bind (wpAny_bind (wpAny_bind (wpAny_bind (L3.at ?_))))
 rw [if_pos rfl]
 refine L1.at ?_
 simp only [Bool.not_true,Bool.false_eq_true,if_false]
 refine wpAny_pure (wpAny_pure ?_)
 have L4:PySem.W.Looks (model prog w) hh (typeOf (.ref e)) (.ref D):=hc ▸ (PySem.W.Looks.ld hx).andThen .now
 refine wpAny_bind (L4.at (wpAny_bind (wpAny_bind (wpAny_bind (L2.at ?_)))))
 cases b with
 | true=>rw [if_pos rfl]; exact wpAny_pure (wpAny_pure (wpAny_pure h))
 | false=>rw [if_neg Bool.false_ne_true]; exact wpAny_pure (wpAny_pure (wpAny_pure h))
end
noncomputable abbrev xmk (X:Cx) (v:Value):Cx:={ X with A:=X.A.mark (some v),calm:=false }
section
variable {X:Cx} {ca:Nat->Addr} {pins:List (Addr×Obj)} {σ:L2.St} {H:Hp} {s:Shared} {a:Addr} {x:Xc}
theorem QiV (v:Value) (I:Inv X pins σ H s):Inv (xmk X v) pins σ H s :=
 ⟨⟨I.ok.mod,I.ok.kind,I.ok.glob,I.ok.blt,I.ok.above,I.ok.inj,I.ok.has,I.ok.cab,(fun z=>by cases z),I.ok.frames,I.ok.stk,I.ok.exf,I.ok.bs,I.ok.bsz,I.ok.noex,I.ok.exfs,I.ok.funs,I.ok.frf⟩,I.os,I.bare,I.base,I.loc,I.cell,I.free,I.freeC,I.pin,I.hok,I.len⟩
theorem QeB {v:Value} (h:X.calm=true->X.A.handled=none) (I:Inv (xmk X v) pins σ H s):Inv X pins σ H s :=
 ⟨⟨I.ok.mod,I.ok.kind,I.ok.glob,I.ok.blt,I.ok.above,I.ok.inj,I.ok.has,I.ok.cab,h,I.ok.frames,I.ok.stk,I.ok.exf,I.ok.bs,I.ok.bsz,I.ok.noex,I.ok.exfs,I.ok.funs,I.ok.frf⟩,I.os,I.bare,I.base,I.loc,I.cell,I.free,I.freeC,I.pin,I.hok,I.len⟩
theorem Qff {o:HO} (I:Inv X pins σ H s) (ha:FpW X pins H a) (new:ObjOk X.prog X.w (upd H a o) s.heap a o):Inv X pins σ (upd H a o) s:=by
 have ne:∀ b u,H b=some u->b≠a:=fun b u e=>QO e ha.1
 refine QcU (h':=s.heap) (H':=upd H a o) (g':=s.gens) (t':=s.toks) (d':=s.drawn) (ch:=[a]) I (fun b hb=>?_) (fun b o _ _ _ e _=>e) (fun b o _ _ _ e _=>⟨o.slots,e⟩) (fun b o hb e n=>?_) (fun b o _ e=>⟨o,e⟩)
  (fun b xs e=>by rw [Qq (ne b _ e)]; exact e) (fun b o u e=>by rw [Qq (ne b _ e)]; exact e) (fun b ps e=>⟨#[],by rw [Qq (ne b _ e),e]; simp⟩) (fun _ h=>h) (fun b u e=>?_) I.bare
 ·rw [List.mem_singleton.mp hb]
  exact⟨ha.2.2.2.1,ha.2.1,ha.2.2.2.2.1,ha.2.2.2.2.2⟩
 ·rw [Qq (fun z=>hb (by simp [z]))]; exact n
 ·by_cases hb:b=a
  ·subst hb; rw [Qn] at e; cases e; exact new
  ·rw [Qq hb] at e
   exact(I.hok b u e).stay (fun _ _ _ q=>q) (fun c q=>by rw [Qq (ne c _ q)]; exact q) fun c xs q=>by rw [Qq (ne c _ q)]; exact q
theorem QgA {M:Model} {A:Around} {E:Value->Shared->Prop} {i:Nat} {n:Str} {pos:Pos} {Q:Unit->Shared->Prop} (I:Inv X pins σ H s) (hN:X.N.Nodup) (hi:X.N[i]?=some n) (hl:X.env.kindOf n=some .local)
  (h:∀ s',Inv X pins (σ.set i none) H s'->Q () s'):wpAny M A (do bindName X.env n .none; unbindBehindTheSuite X.env n pos) Q E s:=by
 obtain⟨m,hn,hlk⟩:=id I.loc
 have hcls:(X.env.scope.kind == .class || (X.env.scope.kind == .module && X.env.locals != X.env.globals))=false:=by rw [I.ok.kind]; rfl
 refine wpAny_nameGoes_keeps hl hn hcls fun h' v hn' hs=>h _ ?_
 have old:∀ b o,b≠X.env.locals->s.heap.get? b=some o->h'.get? b=some o:=fun b o hb e=>(hs.2 b hb).trans e
 have neL:∀ b o,X.s₀.heap.get? b=some o->b≠X.env.locals:=fun b o e=>Nat.ne_of_lt (Nat.lt_of_lt_of_le (Heap.lt_size e) I.ok.above)
 obtain⟨oL,_,_,hoL,_⟩:=id hn
 refine⟨I.ok,I.os,I.bare,⟨fun b o e n hb hx=>old b o (neL b o e) (I.base.keep b o e n hb hx),fun b o e n hb hx=>?_,I.base.free,fun b o e hx=>?_,I.base.tups,I.base.frzs,I.base.tbls⟩,⟨_,hn',fun j y u e1 e2 e3=>?_⟩,fun y c e=>?_,I.free,I.freeC,fun p hp=>?_,fun b o e=>?_,by simpa using I.len⟩
 ·obtain⟨sl,z⟩:=I.base.slot b o e n hb hx
  exact⟨sl,old b _ (neL b o e) z⟩
 ·obtain⟨o',z⟩:=I.base.there b o e hx
  exact⟨o',old b _ (neL b o e) z⟩
 ·have hj:j≠i:=fun z=>by
   subst z
   rw [List.getElem?_set] at e2
   split at e2
   ·split at e2 <;> simp at e2
   ·rename_i q; exact q rfl
  rw [List.getElem?_set_ne (Ne.symm hj)] at e2
  obtain⟨u',r',q⟩:=hlk j y u e1 e2 e3
  refine⟨u',r',?_⟩
  rcases q with⟨k,e⟩ | ⟨k,c,e,z⟩
  ·refine .inl ⟨k,?_⟩
   have:y≠n:=fun e=>hj (QbX hN e1 (e ▸ hi))
   simp [this,e]
  ·exact .inr ⟨k,c,e,z.sameBut hs (I.cne y c e)⟩
 ·obtain⟨w',z⟩:=I.cell y c e
  exact⟨w',z.sameBut hs (I.cne y c e)⟩
 ·obtain⟨e,n,ne,nf,d⟩:=I.pin p hp
  exact⟨old p.1 _ ne e,n,ne,nf,d⟩
 ·refine(I.hok b o e).stay (fun c w' hc q=>old c _ ?_ q) (fun _ q=>q) fun _ _ q=>q
  rintro rfl
  rcases hc with z | z
  ·rw [← z,I.free] at e; cases e
  ·rw [I.free] at z; cases z
end
end L3
end
section
namespace L3
open PySem PySem.Spec PyProof.Rows L2
section
variable {X:Cx} {ca:Nat->Addr} {body suite:List Stmt} {b0:Stmt} {mb mc:MS} {np hpos pos:Pos} {C:Addr} {cs no:List Nat} {T n:Str}
theorem QlA {Y:Cx} {pn pins:List (Addr×Obj)} {E E':Value->Shared->Prop} {σ:L2.St} {H:Hp} {s:Shared} (I:Inv { Y with pn:=pn,xe:=E } pins σ H s):Inv { Y with pn:=pn++pins,xe:=E' } [] σ H s :=
 ⟨⟨I.ok.mod,I.ok.kind,I.ok.glob,I.ok.blt,I.ok.above,I.ok.inj,I.ok.has,I.ok.cab,I.ok.hd,I.ok.frames,I.ok.stk,I.ok.exf,I.ok.bs,I.ok.bsz,I.ok.noex,I.ok.exfs,I.ok.funs,I.ok.frf⟩,I.os,I.bare,I.base,I.loc,I.cell,I.free,I.freeC,fun p hp=>I.pin p (by rw [List.append_nil] at hp; exact hp),I.hok,I.len⟩
theorem Qa5 {Y:Cx} {pn pins:List (Addr×Obj)} {E E':Value->Shared->Prop} {σ:L2.St} {H:Hp} {s:Shared} (I:Inv { Y with pn:=pn++pins,xe:=E } [] σ H s):Inv { Y with pn:=pn,xe:=E' } pins σ H s :=
 ⟨⟨I.ok.mod,I.ok.kind,I.ok.glob,I.ok.blt,I.ok.above,I.ok.inj,I.ok.has,I.ok.cab,I.ok.hd,I.ok.frames,I.ok.stk,I.ok.exf,I.ok.bs,I.ok.bsz,I.ok.noex,I.ok.exfs,I.ok.funs,I.ok.frf⟩,I.os,I.bare,I.base,I.loc,I.cell,I.free,I.freeC,fun p hp=>I.pin p (by rw [List.append_nil]; exact hp),I.hok,I.len⟩
theorem QgB {pn:List (Addr×Obj)} {σ:L2.St} {H:Hp} {s:Shared} {a:Addr} {x:Xc} {oe:Obj} {R:Result->Shared->Prop} {b:Bool} (I:Inv (xon X pn) [] σ H s) (hT:X.mg T=some (.ref C)) (F:CatX X.K ca C cs no) (he:s.heap.get? a=some oe) (ho:XOb ca x oe)
  (hs:PySem.W.subIn X.K (.ref (ca x.1)) (.ref C)=some b) (hg:Gl X T) (hdb:(T == ("__debug__" : Str))=false) (h:R (.ok (if b then .brk else .next)) s) :
  codeAny (model X.prog X.w) (X.A.mark (some (.ref a))) (.handlers (.ref a) [.ExceptHandler (some (.Name T np)) none [] hpos] X.env) R s :=
 codeAny_handlers_test (QaR (X:=xmk (xon X pn) (.ref a)) (QiV _ I) hg hT (Qgz I.kIn F he ho.1 hs h) hdb)
theorem QjQ {pn pins:List (Addr×Obj)} {Φ:XS} {σ:L2.St} {H:Hp} {s:Shared} {a:Addr} {x:Xc} {Q:Flow->Shared->Prop} (hf:X.env.frame=some X.env.locals) (I:Inv (xon X (pn++pins)) [] σ H s) (fl:FlT (xon X (pn++pins)) ca a x H s.heap) (h:Φ x σ H) :
  wpAny (model X.prog X.w) X.A (handleBy (.ref a) X.env []) Q (xat X ca pn Φ).xe s:=by
 refine wpAny_handleBy_nil ?_
 unfold PySem.passOn
 obtain⟨fp,ln,oe,vs,T,oT,ts,he,hc,hd,hv,hTa,fT,hT,hdT,hs3⟩:=id fl
 refine wpAny_bind (wpAny_field he hd hv ?_)
 rw [if_neg (show ¬ ((Value.ref T == Value.none)=true) from by simp)]
 refine wpAny_bind (Y4 (fo:=X.env.frame) I fl fun h2 T oT ts oe vs I2 a1 a2 a3 a4 a5 a6 a7 a8 a9 a10=>wpAny_throw ?_)
 rw [hf] at a10
 have dn:∀ {b:Addr},FpW (xon X (pn++pins)) [] H b->FpW (xon X pn) [] H b:=fun z=>⟨z.1,z.2.1,z.2.2.1,z.2.2.2.1,z.2.2.2.2.1,fun p hp=>z.2.2.2.2.2 p (by rw [List.append_nil] at hp ⊢; exact List.mem_append_left _ hp)⟩
 exact⟨a,x,σ,H,rfl,(Qa5 (Y:=X) I2).pins_of fun p hp=>absurd hp (by simp),FlN.fl ⟨dn fp,ln,oe,vs,T,oT,ts,a1,a2,a3,a4,a5,dn a6,a7,a8,a10⟩,h⟩
theorem QhS {hs:List MH} {h0:ExceptHandler} {hr:List ExceptHandler} (hb:PSs3 ca X body mb) (hk:X.stack=X.env::X.outer) (hf:X.env.frame=some X.env.locals)
  (hh:∀(pn pins:List (Addr×Obj)) (Φ:XS) (En:Ends) (σ:L2.St) (H:Hp) (s:Shared) (a:Addr) (x:Xc) (σ3:S3) (g:G) (μ:List Addr),(X.calm=true->X.A.handled=none)->Inv (xon X (pn++pins)) [] σ H s->FlT (xon X (pn++pins)) ca a x H s.heap->Rep X.K ca μ σ3 g σ H->PostS X.K ca Φ En H μ (runH hs x σ3 g) ->
   wpAny (model X.prog X.w) X.A (handleBy (.ref a) X.env (h0::hr)) (SP (xat X ca pn Φ) pins En) (xat X ca pn Φ).xe s):PS3 ca X (.Try body (h0::hr) [] [] pos) (mTry mb hs):=by
 intro pn Φ pins s σ H En I ⟨σ3,g,μ,R,p⟩
 refine wpAny_Try_except ?_
 have p1:PostS X.K ca (fun x σ' H'=>∃ σ4 g4 μ4,Rep X.K ca μ4 σ4 g4 σ' H'∧PostS X.K ca Φ En H' μ4 (runH hs x σ4 g4)) En H μ (mb σ3 g):=by
  unfold mTry at p
  cases hm:mb σ3 g with
  | nx _ _=>rw [hm] at p; exact p
  | rt _ _=>rw [hm] at p; exact p
  | bk _ _=>rw [hm] at p; exact p
  | ct _ _=>rw [hm] at p; exact p
  | raise x σ' g'=>rw [hm] at p; exact fun σ4 H' μ' e R'=>⟨σ',g',μ',R',PostS.go e p⟩
  | stuck=>rw [hm] at p; exact p
 refine wpAny_mono (hb (pn++pins) _ [] s σ H En (QlA (Y:=X) I) ⟨σ3,g,μ,R,p1⟩) (fun f s1 h1=>?_) fun v s1 h1=>?_
 ·cases f with
  | next=>obtain⟨σ',H',J,q⟩:=h1; exact QfQ (X:=xat X ca pn Φ) pins s1 σ' H' En (Qa5 (Y:=X) J) q
  | brk=>obtain⟨σ',H',J,q⟩:=h1; exact⟨σ',H',Qa5 (Y:=X) J,q⟩
  | cont=>obtain⟨σ',H',J,q⟩:=h1; exact⟨σ',H',Qa5 (Y:=X) J,q⟩
  | ret u=>obtain⟨v,σ',H',J,r,q⟩:=h1; exact⟨v,σ',H',Qa5 (Y:=X) J,r,q⟩
 ·obtain⟨a,x,σ',H',rfl,I1,fl,σ4,g4,μ4,R4,p4⟩:=h1
  refine QdE (X:=xon X (pn++pins)) I1 hk hf fl fun h2 I2 f2=>?_
  refine Y4 (X:=xon X (pn++pins)) (fo:=none) I2 f2.t fun h3 T oT ts oe vs I3 a1 a2 a3 a4 a5 a6 a7 a8 a9 a10=>?_
  exact hh pn pins Φ En σ' H' _ a x σ4 g4 μ4 I.ok.hd I3 ⟨f2.1,f2.2.1,oe,vs,T,oT,ts,a1,a2,a3,a4,a5,a6,a7,a8,a9⟩ R4 p4
theorem QjR (i:Nat) (hN:X.N.Nodup) (hT:X.mg T=some (.ref C)∧CatX X.K ca C cs no) (hb:PSs3 ca X body mb) (hc:∀ a,PSs3 ca (xmk X (.ref a)) (b0::suite) mc) (hi:X.N[i]?=some n:=by rfl) (hl:X.env.kindOf n=some .local:=by rfl)
  (hg:Gl X T:=by rfl) (hdb:(T == ("__debug__" : Str))=false:=by decide) (hk:X.stack=X.env::X.outer:=by rfl) (hf:X.env.frame=some X.env.locals:=by rfl) :
  PS3 ca X (.Try body [.ExceptHandler (some (.Name T np)) (some n) (b0::suite) hpos] [] [] pos) (mTry mb [⟨cs,no,some i,mc⟩]):=by
 refine QhS hb hk hf fun pn pins Φ En σ H s a x σ3 g μ hcalm I fl R p=>?_
 obtain⟨fp,ln,oe,vs,Tb,oT,ts,he,hox,hd,hv,hTa,fT,hTT,hdT,hs3⟩:=id fl
 unfold runH at p
 by_cases hx:x.1∈cs
 ·rw [if_pos hx] at p
  dsimp only at p
  refine wpAny_handleBy_cons (QgB I hT.1 hT.2 he hox (hT.2.yes _ hx) hg hdb ?_) (by intro q; cases q)
  refine codeAny_handlers_suite_as ?_
  refine Y4 (fo:=none) I fl fun h2 T2 oT2 ts2 oe2 vs2 I2 b1 b2 b3 b4 b5 b6 b7 b8 b9 b10=>?_
  have I3:Inv (xon X (pn++pins)) [] σ (upd H a (XO ca a x)) { s with heap:=h2 }:=Qff I2 fp ⟨⟨oe2,vs2,b1,b2,b3⟩,⟨oe2,b1⟩,fun h3 h4 ⟨o,ws,c1,c2,c3⟩ k=>⟨o,ws,k o c1,c2,c3⟩⟩
  have ex:Ext X.K μ H (μ++[a]) (upd H a (XO ca a x)):=QE fp.1
  have G3:GRep X.K ca (μ++[a]) (upd H a (XO ca a x)) (g++[.exc x]):=R.g.push fp.1 Qn
  have ea:(μ++[a])[g.length]?=some a:=by rw [← R.g.len]; simp
  refine QbY (X:=xmk (xon X (pn++pins)) (.ref a)) (QiV _ I3) hN hi (.inl hl) (v:=.ref a) rfl (fun s4 I4=>?_) (.inr hl)
  have R4:Rep X.K ca (μ++[a]) (σ3.set i (some (.ref g.length))) (g++[.exc x]) (σ.set i (some (.ref a))) (upd H a (XO ca a x)):=(R.go ex G3).set (.ref ea) i
  have hcc:=hc a (pn++pins) F0 [] s4 (σ.set i (some (.ref a))) (upd H a (XO ca a x)) { nx:=fun σ' H'=>En.nx (σ'.set i none) H',rt:=En.rt } (Inv.wish I4 _) ⟨_,_,_,R4,by
   cases hm:mc (σ3.set i (some (.ref g.length))) (g++[.exc x]) with
   | nx σ5 g5 =>
    rw [hm] at p
    intro σ' H' μ' e' R'
    refine p (σ'.set i none) H' μ' (ex.trans e') ⟨R'.g,by rw [List.length_set,List.length_set,R'.len],fun j d hj=>?_⟩
    have hji:j≠i:=fun z=>by
     subst z
     rw [List.getElem?_set] at hj
     split at hj
     ·split at hj <;> simp at hj
     ·rename_i q; exact q rfl
    rw [List.getElem?_set_ne (Ne.symm hji)] at hj ⊢
    exact R'.st j d hj
   | rt d g5=>rw [hm] at p; exact fun v H' μ' e'=>p v H' μ' (ex.trans e')
   | bk _ _=>rw [hm] at p; exact p.elim
   | ct _ _=>rw [hm] at p; exact p.elim
   | raise _ _ _=>rw [hm] at p; exact p.elim
   | stuck=>rw [hm] at p; exact p.elim⟩
  refine wpAny_mono (noX hcc) (fun f s5 h5=>?_) fun _ _ z=>z.elim
  cases f with
  | next =>
   obtain⟨σ',H',J,q⟩:=h5
   have J':Inv (xon X (pn++pins)) [] σ' H' s5:=QeB (v:=.ref a) hcalm (Inv.wish J _)
   exact QgA (X:=xon X (pn++pins)) J' hN hi hl fun s6 J6=>⟨_,H',Qa5 (Y:=X) J6,q⟩
  | ret u =>
   obtain⟨v,σ',H',J,r,q⟩:=h5
   have J':Inv (xon X (pn++pins)) [] σ' H' s5:=QeB (v:=.ref a) hcalm (Inv.wish J _)
   exact QgA (X:=xon X (pn++pins)) J' hN hi hl fun s6 J6=>⟨v,_,H',Qa5 (Y:=X) J6,r,q⟩
  | brk=>obtain⟨_,_,_,q⟩:=h5; exact q.elim
  | cont=>obtain⟨_,_,_,q⟩:=h5; exact q.elim
 ·rw [if_neg hx] at p
  by_cases hn:x.1∈no
  ·rw [if_pos hn] at p
   refine wpAny_handleBy_cons (QgB I hT.1 hT.2 he hox (hT.2.no' _ hn) hg hdb ?_) (by intro q; cases q)
   exact QjQ hf I fl (p σ H μ .refl R)
  ·rw [if_neg hn] at p; exact p.elim
end
end L3
end
section
namespace L3
open PySem PySem.Spec PyProof.Rows L2
noncomputable def bchk (sc scope:Scope) (N Nb:List Str) (no:Nat) (cap:List Nat):Bool :=
 decide (scope.kind=.function) && scope.names.all (fun y=>decide (y.2≠.cell)) && scope.names.all (fun y=>decide (y.2≠.local) || decide (scope.names.lookup y.1=some .local)) &&
 scope.names.all (fun y=>decide (y.2≠.free) || decide (sc.names.lookup y.1=some .cell) || decide (sc.names.lookup y.1=some .free)) && decide (Nb.length=no+cap.length) &&
 (List.range cap.length).all fun j=>match cap[j]?,Nb[no+j]? with
  | some i,some x=>decide (N[i]?=some x) && decide (scope.names.lookup x=some .free) && (decide (sc.names.lookup x=some .cell) || decide (sc.names.lookup x=some .free))
  | _,_=>false
theorem Yo {X:Cx} {scope sc:Scope} {N Nb:List Str} {no:Nat} {cap:List Nat} (hsc:X.env.scope=sc) (hN:X.N=N) (h:bchk sc scope N Nb no cap=true):BScope X scope Nb no cap:=by
 subst hsc hN
 unfold bchk at h
 simp only [Bool.and_eq_true,decide_eq_true_eq] at h
 obtain⟨⟨⟨⟨⟨h1,h2⟩,h3⟩,h4⟩,h5⟩,h6⟩:=h
 rw [List.all_eq_true] at h2 h3 h4 h6
 refine⟨h1,fun y hy=>of_decide_eq_true (h2 y hy),fun y hy e=>?_,fun y hy e=>?_,h5,fun j i hj=>?_⟩
 ·rcases Bool.or_eq_true_iff.mp (h3 y hy) with z | z
  ·exact absurd e (of_decide_eq_true z)
  ·exact of_decide_eq_true z
 ·rcases Bool.or_eq_true_iff.mp (h4 y hy) with z | z
  ·rcases Bool.or_eq_true_iff.mp z with z | z
   ·exact absurd e (of_decide_eq_true z)
   ·exact .inl (of_decide_eq_true z)
  ·exact .inr (of_decide_eq_true z)
 ·have hl:j<cap.length:=(List.getElem?_eq_some_iff.mp hj).1
  have z:=h6 j (List.mem_range.mpr hl)
  rw [hj] at z
  cases hx:Nb[no+j]? with
  | none=>rw [hx] at z; cases z
  | some x =>
   rw [hx] at z
   simp only [Bool.and_eq_true,Bool.or_eq_true,decide_eq_true_eq] at z
   obtain⟨⟨z1,z2⟩,z3⟩:=z
   refine⟨x,rfl,z1,z2,.inr z3,fun q=>?_⟩
   have q:X.env.scope.names.lookup x=some .local:=q
   rcases z3 with z | z
   ·rw [z] at q; cases q
   ·rw [z] at q; cases q
noncomputable def exkB (K:PySem.W.Frag) (C:Addr):Bool :=
 (PySem.W.findIn K (.ref C) "__getattribute__" == some (some (.builtin "BaseException.__getattribute__"))) && (PySem.W.findIn K (.ref C) "__getattr__" == some none) && (PySem.W.findIn K (.ref C) "__class__" == some (some (.builtin "object.__class__"))) &&
 (PySem.W.specialIn K (.builtin "object.__class__") "__get__" == some (some (.builtin "getset_descriptor.__get__"))) && (PySem.W.takesIn K (.builtin "object.__class__") == some true) && (PySem.W.mroIn K C (.type "object") == some true) &&
 (PySem.W.subIn K (.ref C) (.type "BaseException") == some true) && (PySem.W.clsIn K C).isSome
theorem QlB {K:PySem.W.Frag} {C:Addr} (h:exkB K C=true):ExK K C:=by
 unfold exkB at h
 simp only [Bool.and_eq_true,beq_iff_eq] at h
 obtain⟨⟨⟨⟨⟨⟨⟨h1,h2⟩,h3⟩,h4⟩,h5⟩,h6⟩,h7⟩,h8⟩:=h
 exact⟨h1,h2,h3,h4,h5,h6,h7,h8⟩
noncomputable def isxB (K:PySem.W.Frag) (ca:Nat->Addr) (T:Value) (all cs:List Nat):Bool:=all.all (fun c=>exkB K (ca c) && (PySem.W.kitOne K (.ref (ca c)) T == some (decide (c∈cs)))) && (PySem.W.kitOne K (.type "NoneType") T == some false)
theorem Y9 {K:PySem.W.Frag} {ca:Nat->Addr} {T:Value} {all cs:List Nat} (h:isxB K ca T all cs=true):IsX K ca T all cs:=by
 unfold isxB at h
 rw [Bool.and_eq_true,List.all_eq_true] at h
 exact⟨fun c hc=>QlB (Bool.and_eq_true_iff.mp (h.1 c hc)).1,fun c hc=>beq_iff_eq.mp (Bool.and_eq_true_iff.mp (h.1 c hc)).2,beq_iff_eq.mp h.2⟩
noncomputable def catB (K:PySem.W.Frag) (ca:Nat->Addr) (C:Addr) (cs no:List Nat):Bool:=(PySem.W.clsIn K C).isSome && (PySem.W.typeIn K (.ref C) == some (.type "type")) && (PySem.W.subIn K (.ref C) (.type "BaseException") == some true) &&
 cs.all (fun c=>PySem.W.subIn K (.ref (ca c)) (.ref C) == some true) && no.all fun c=>PySem.W.subIn K (.ref (ca c)) (.ref C) == some false
theorem QlC {K:PySem.W.Frag} {ca:Nat->Addr} {C:Addr} {cs no:List Nat} (h:catB K ca C cs no=true):CatX K ca C cs no:=by
 unfold catB at h
 simp only [Bool.and_eq_true,beq_iff_eq,List.all_eq_true] at h
 obtain⟨⟨⟨⟨h1,h2⟩,h3⟩,h4⟩,h5⟩:=h
 exact⟨h1,h2,h3,h4,h5⟩
noncomputable def clsB (K:PySem.W.Frag) (C:Addr):Bool:=PySem.W.plainGet K C Str.empty && PySem.W.hasDictIn K C && PySem.W.plainOver K C && (PySem.W.findIn K (.ref C) "__setattr__" == some (some (.builtin "object.__setattr__")))
theorem JT {K:PySem.W.Frag} {C:Addr} (h:clsB K C=true):Cls K C:=by
 unfold clsB at h
 simp only [Bool.and_eq_true,beq_iff_eq] at h
 obtain⟨⟨⟨h1,h2⟩,h3⟩,h4⟩:=h
 exact⟨h1,h2,h3,h4⟩
noncomputable def fldB (K:PySem.W.Frag) (ca:Nat->Addr) (cs:List Nat) (f:Str):Bool:=cs.all fun c=>clsB K (ca c) && (PySem.W.findIn K (.ref (ca c)) f == some none)
theorem QcY {K:PySem.W.Frag} {ca:Nat->Addr} {cs:List Nat} {f:Str} (h:fldB K ca cs f=true):FldOk K ca cs f:=by
 unfold fldB at h
 rw [List.all_eq_true] at h
 exact⟨fun c hc=>JT (Bool.and_eq_true_iff.mp (h c hc)).1,fun c hc=>beq_iff_eq.mp (Bool.and_eq_true_iff.mp (h c hc)).2⟩
section
variable {X:Cx} {ca:Nat->Addr} {pos:Pos} {x:Str}
theorem QgC {t:Str} (h:∃ k,X.mg x=some (.str t k)) (hg:Gl X x:=by rfl) (hd:(x == ("__debug__" : Str))=false:=by decide):PE3 ca X (.Name x pos) (mLit (.str t)):=by
 obtain⟨k,h⟩:=h
 exact QiN h (v:=.str t) ⟨k,rfl⟩ (fun _ _ _=>.str t) hg hd
theorem QgD {i:Int} (h:∃ k,X.mg x=some (.int i k)) (hg:Gl X x:=by rfl) (hd:(x == ("__debug__" : Str))=false:=by decide):PE3 ca X (.Name x pos) (mLit (.int i)):=by
 obtain⟨k,h⟩:=h
 exact QiN h (v:=.int i) ⟨k,rfl⟩ (fun _ _ _=>.int i) hg hd
end
theorem QiW:bootBuiltins "int" = some (.type Ty.int.name):=boot_int
theorem QgE:bootBuiltins "bool" = some (.type Ty.bool.name):=by decide +kernel
theorem QiX:bootBuiltins "str" = some (.type Ty.str.name):=by decide +kernel
theorem QaJ:bootBuiltins "tuple" = some (.type Ty.tuple.name):=boot_tuple
theorem QdI:bootBuiltins "list" = some (.type Ty.list.name):=boot_list
theorem QgF:bootBuiltins "dict" = some (.type Ty.dict.name):=by decide +kernel
theorem Qcf:bootBuiltins "ValueError" = some (.type "ValueError"):=by decide +kernel
section
variable {P:Program} {w:World} {K:PySem.W.Frag} {mg:Str->Option Value} {base:Heap} {ca:Nat->Addr}
theorem QjS {f:Addr} {fd:FuncData} {ps:List Str} {k n:Nat} (hn:ps.length=n):FnOk P w K mg base (CXW P w ca) k f fd ps (spM K ca n fun _ _=>.stuck):=by
 subst hn
 exact⟨fun vs H Q E q=>q.1,fun A outer s H args us vs Q E _ _ _ _ h=>by obtain⟨_,_,_,_,_,_,z⟩:=h; exact z.elim⟩
theorem QlD {F:MF} {H:Hp} {a:Addr} {ns:List Int} (hO:Only H) (hS:SqL K H a (ns.map V.int)) (h:∃ g',F [.fl (ns.map D.int)] []=.ok (.bl true) g'):spM K ca 1 F [.ref a] H (fun v _=>v=.bl true) fun _ _ _=>False:=by
 obtain⟨g',h⟩:=h
 have hF:SqF K H a (ns.map V.int):=by
  rcases hS with(h | ⟨o,h⟩) | h
  ·rcases hO a with z | ⟨o,xs,z⟩
   ·rw [h] at z; cases z
   ·rw [h] at z; cases z
  ·exact .inl ⟨o,h⟩
  ·exact .inr (.inr h)
 refine⟨rfl,[.fl (ns.map D.int)],[],[],⟨rfl,.nil,fun n a o h=>by simp at h⟩,.cons (.fl hF (Dens.ints ns)) .nil,?_⟩
 rw [h]
 intro v H' μ' e r q
 cases q
 rfl
end
end L3
end
section
namespace L3
open PySem PySem.Spec
theorem len0 {α:Type} {us:List α} (h:us.length=0):us=[]:=List.eq_nil_of_length_eq_zero h
theorem len1 {α:Type} {us:List α} (h:us.length=1):∃ a0,us=[a0]:=by
 cases us with
 | nil=>cases h
 | cons a r =>
  have e:=len0 (Nat.succ.inj h)
  subst e
  exact⟨a,rfl⟩
theorem len2 {α:Type} {us:List α} (h:us.length=2):∃ a0 a1,us=[a0,a1]:=by
 cases us with
 | nil=>cases h
 | cons a r =>
  obtain⟨b0,rfl⟩:=len1 (Nat.succ.inj h)
  exact⟨a,b0,rfl⟩
theorem len3 {α:Type} {us:List α} (h:us.length=3):∃ a0 a1 a2,us=[a0,a1,a2]:=by
 cases us with
 | nil=>cases h
 | cons a r =>
  obtain⟨b0,b1,rfl⟩:=len2 (Nat.succ.inj h)
  exact⟨a,b0,b1,rfl⟩
theorem len4 {α:Type} {us:List α} (h:us.length=4):∃ a0 a1 a2 a3,us=[a0,a1,a2,a3]:=by
 cases us with
 | nil=>cases h
 | cons a r =>
  obtain⟨b0,b1,b2,rfl⟩:=len3 (Nat.succ.inj h)
  exact⟨a,b0,b1,b2,rfl⟩
noncomputable def QiY:Expr->Bool
 | .Starred ..=>false
 | _=>true
theorem QgG {e:Expr} {es:List Expr} {env:Env} (h:QiY e=true):starEach (e::es) env=(false,eval e env)::starEach es env:=by
 cases e <;> first | rfl | exact absurd h Bool.false_ne_true
variable {P:Program} {w:World} {K:PySem.W.Frag} {mg:Str->Option Value} {base:Heap} {ca:Nat->Addr} {X:L2.Cx}
theorem Qe {e:Expr} {es:List Expr} {me:ME} {mr:MA} (ha:PE3 ca X e me) (hr:PA3 ca X es mr) (hs:QiY e=true:=by rfl):PA3 ca X (e::es) (Qa me mr):=YY ha hr (QgG hs)
noncomputable def QiZ:Expr->Bool
 | .ListComp ..=>false
 | .SetComp ..=>false
 | .DictComp ..=>false
 | _=>true
theorem QjT {e:Expr} {t:Option Expr} {l:Nat} {env:Env} (h:QiZ e=true):swapsWith e t l env=pure false:=by
 cases e <;> first | rfl | exact absurd h Bool.false_ne_true
theorem QX (i:Nat) {x:Str} {pos pos':Pos} {e:Expr} {me:ME} (hN:X.N.Nodup) (he:PE3 ca X e me) (hi:X.N[i]?=some x:=by rfl) (hx:L2.Loc X.env.scope x:=by first | exact Or.inl rfl | exact Or.inr rfl)
  (hs:QiZ e=true:=by rfl) (hf:X.fn x=true∨X.env.scope.names.lookup x=some .local:=by first | exact .inl rfl | exact .inr rfl) :
  PS3 ca X (.Assign [.Name x pos'] e pos) (mAsg (gSet i) me):=Qmy i hN he hi hx (QjT hs) hf
end L3
end
section
namespace PySem
namespace F
theorem QcZ:Manifest.owners.lookup (String.ofList ['d','e','s','r','e','v','e','r'].reverse)=some Manifest.sig_reversed:=by kernel_rfl
theorem slot_rev_next:Slot "reversed" "__next__" "reversed.__next__" :=
 .of (owner:="reversed") (n:="__next__") (by rw [typeLookup_type,builtinLookup_eq_fast]; kernel_rfl) (by decide +kernel) (by decide +kernel) (by decide +kernel)
  (by first | exact .inl (by decide +kernel) | exact .inr (by decide +kernel)) (by rw [isSubtype_type]; kernel_rfl)
theorem entry_rev_next:entryFor table "reversed.__next__" = some Builtin.«reversed.__next__»:=entryFor_of_tree (by kernel_rfl)
theorem args_rev_next_1 (a:Value):argsOk "reversed.__next__" ⟨[a],[]⟩:=by
 unfold argsOk; rw [signature?_of (id:="reversed.__next__") (n:=['_','_','t','x','e','n','_','_']) (o:=['d','e','s','r','e','v','e','r']) (by kernel_rfl) QcZ]; kernel_rfl
theorem slot_rev_iter:Slot "reversed" "__iter__" "reversed.__iter__" :=
 .of (owner:="reversed") (n:="__iter__") (by rw [typeLookup_type,builtinLookup_eq_fast]; kernel_rfl) (by decide +kernel) (by decide +kernel) (by decide +kernel)
  (by first | exact .inl (by decide +kernel) | exact .inr (by decide +kernel)) (by rw [isSubtype_type]; kernel_rfl)
theorem args_rev_iter_1 (a:Value):argsOk "reversed.__iter__" ⟨[a],[]⟩:=by
 unfold argsOk; rw [signature?_of (id:="reversed.__iter__") (n:=['_','_','r','e','t','i','_','_']) (o:=['d','e','s','r','e','v','e','r']) (by kernel_rfl) QcZ]; kernel_rfl
theorem entry_rev_iter:entryFor table "reversed.__iter__" = some Builtin.«dict_keyiterator.__iter__» :=
 entryFor_alias (id':="dict_keyiterator.__iter__") (by kernel_rfl) (by first | rfl | decide +kernel | (unfold String.splitOn; simp +decide [String.splitOnAux])) (by decide +kernel) (by kernel_rfl)
theorem Qcg:Slot "reversed" "__init__" "object.__init__" :=
 .of (owner:="object") (n:="__init__") (by rw [typeLookup_type,builtinLookup_eq_fast]; kernel_rfl) (by decide +kernel) (by decide +kernel) (by decide +kernel)
  (by first | exact .inl (by decide +kernel) | exact .inr (by decide +kernel)) (by rw [isSubtype_type]; kernel_rfl)
theorem called_rev:TypeCalled "reversed" "reversed.__new__" "object.__init__" :=
 ⟨by decide +kernel,by decide +kernel,⟨_,_,mro_reversed⟩,made_reversed,by decide +kernel,sub_reversed_self,Qcg⟩
theorem no_tuple_reversed:typeLookup (.type "tuple") "__reversed__" = pure none:=by rw [typeLookup_type,builtinLookup_eq_fast]; kernel_rfl
theorem tuple_getitem:typeLookup (.type "tuple") "__getitem__" = pure (some (.builtin "tuple.__getitem__")):=by rw [typeLookup_type,builtinLookup_eq_fast]; kernel_rfl
theorem tuple_dict:isSubtype (.type "tuple") (.type "dict")=pure false:=by rw [isSubtype_type]; kernel_rfl
end F
end PySem
end
section
namespace L3
open PySem PySem.Spec PyProof.Rows PySem.Calls
section
variable {prog:Program} {w:World} {A:Around} {E:Value->Shared->Prop} {s:Shared}
noncomputable def revT (l:Addr) (i:Int):Obj:={ cls:=.type "reversed",data:=.fields #[.ref l,rawInt i] }
noncomputable def IsRevT (h:Heap) (a l:Addr) (i:Int):Prop:=∃ o,h.get? a=some o∧o.cls=.type "reversed" ∧ o.data=.fields #[.ref l,rawInt i]
theorem IsRevT.typeIs {a l:Addr} {i:Int} (x:IsRevT s.heap a l i):s.TypeIs (.ref a) "reversed":=let ⟨o,ho,hc,_⟩:=x; ⟨o,ho,hc⟩
theorem IsRevT.at {h h':Heap} {a l:Addr} {i:Int} (x:IsRevT h a l i) (e:∀ o,h.get? a=some o->h'.get? a=some o):IsRevT h' a l i:=let ⟨o,ho,r⟩:=x; ⟨o,e _ ho,r⟩
theorem Qfg (l:Addr) (items:Array Value):MeetsIn prog w (Builtin.«reversed.__new__» ⟨[.type "reversed",.ref l],[]⟩) (fun A R s=>IsTup s.heap l items∧(items.size:Int)<2 ^ 63∧∀ tk,R (.ok (.ret (.ref s.heap.objs.size))) { s with heap:=s.heap.push (revT l ((items.size:Int) - 1)),toks:=tk }):=by
 intro A R s ⟨hl,hz,h⟩
 unfold Builtin.«reversed.__new__»
 refine wpAny_bind (wpAny_of_eq (newClass_reversed _) ?_)
 try dsimp only
 refine wpAny_bind (wpAny_of_eq (a:=()) (by first | rfl | kernel_rfl) ?_)
 refine wpAny_bind (wpAny_of_eq (a:=()) (by first | rfl | kernel_rfl) ?_)
 try dsimp only
 refine wpAny_bind (wpAny_specialOf hl.typeIs F.no_tuple_reversed ?_)
 try dsimp only
 refine wpAny_bind (show wpAny _ _ (isInstance (.ref l) (.type "dict") >>= _) _ _ _ from wpAny_bind (wpAny_isInstance hl.typeIs F.tuple_dict ?_))
 try dsimp only
 rw [if_neg Bool.false_ne_true]
 refine wpAny_bind (wpAny_specialOf hl.typeIs F.tuple_getitem ?_)
 try dsimp only
 rw [if_pos (by decide)]
 refine wpAny_pure ?_
 rw [if_neg (by decide)]
 refine wpAny_bind (len_tuple hl hz ?_)
 refine wpAny_bind (wpAny_of_eq (a:=some (items.size:Int)) (by rfl) ?_)
 try dsimp only
 refine wpAny_bind (show wpAny _ _ (newObj (.type "reversed") (.fields #[Value.ref l,rawInt ((items.size:Int) - 1)])) _ _ _ from wpAny_newObj_type ?_ (by size_fits))
 exact wpAny_pure (h _)
theorem JD {l:Addr} {items:Array Value} {Q:Value->Shared->Prop} (hl:IsTup s.heap l items) (hz:(items.size:Int)<2 ^ 63)
  (h:∀ tk,Q (.ref s.heap.objs.size) { s with heap:=s.heap.push (revT l ((items.size:Int) - 1)),toks:=tk }):wpAny (model prog w) A (call (.type "reversed") [.ref l]) Q E s :=
 callType_newIn F.called_rev (by decide) (F.typeCall_reversed_1 _) (F.newCall_reversed_1 _) (fun obj=>F.args_object_init_2 obj _) F.entry_reversed_new (Qfg l items) ⟨hl,hz,fun tk=>⟨⟨_,Heap.get?_push_size _ rfl,rfl⟩,h tk⟩⟩
theorem Qa6 {it l:Addr} {i:Int} {Q:Value->Shared->Prop} (hit:IsRevT s.heap it l i) (h:Q (.ref it) s):wpAny (model prog w) A (pyIter (.ref it)) Q E s:=by
 refine wpAny_pyIter_slot hit.typeIs F.slot_rev_iter (wpAny_call_entry F.slot_rev_iter hit.typeIs F.entry_rev_iter ?_ (F.args_rev_iter_1 _))
 show wpAny _ _ (ret (.ref it)) _ _ s
 exact wpAny_pure ⟨_,rfl, "reversed",_,hit.typeIs,F.slot_rev_next.lookup,h⟩
theorem QaB {it l:Addr} {i:Nat} {items:Array Value} {x:Value} {Q:Option Value->Shared->Prop} (hit:IsRevT s.heap it l (i:Int)) (hl:IsTup s.heap l items) (hx:items[i]?=some x) (hz:(items.size:Int)<2 ^ 63)
  (hQ:∀ h' tk,IsRevT h' it l ((i:Int) - 1)->Heap.SameBut it s.heap h'->Q (some x) { s with heap:=h',toks:=tk }):wpAny (model prog w) A (pyNext (.ref it)) Q E s:=by
 obtain⟨o,ho,hc,hd⟩:=id hit
 have hi:i<items.size:=(Array.getElem?_eq_some_iff.mp hx).1
 unfold pyNext
 refine wpAny_bind (wpAny_attempt (wpAny_callSpecial?_slot (name:=Str.ofString "__next__") hit.typeIs F.slot_rev_next
  (wpAny_call_entry F.slot_rev_next hit.typeIs F.entry_rev_next ?_ (F.args_rev_next_1 _))))
 unfold Builtin.«reversed.__next__»
 refine wpAny_bind (wpAny_of_eq (a:=(Value.ref it,[])) rfl ?_)
 try dsimp only
 refine wpAny_bind (wpAny_field ho hd (x:=.ref l) rfl ?_)
 refine wpAny_bind (wpAny_field ho hd (x:=rawInt (i:Int)) rfl ?_)
 show wpAny _ _ (if (i:Int)<0 then _ else _) _ _ s
 rw [if_neg (by omega)]
 refine wpAny_bind (wpAny_specialOf hl.typeIs F.tuple_getitem ?_)
 try dsimp only
 rw [if_neg (by decide)]
 refine wpAny_bind (wpAny_mkInt ?_)
 refine wpAny_bind (wpAny_attempt (getItem_tuple (k:=(i:Int)) (j:=i) (x:=x) (items:=items) hl (by omega) (by omega) ?_ hx ?_))
 ·unfold seqIndex?
  have e0:¬ ((i:Int)<0):=by omega
  simp only [e0,if_false]
  simp
  exact hi
 try dsimp only
 refine wpAny_bind (wpAny_field ho hd (x:=rawInt (i:Int)) rfl ?_)
 try dsimp only
 refine wpAny_bind (wpAny_setField ho hd (by simp) ?_)
 first
 | refine wpAny_pure ⟨x,rfl,wpAny_pure (hQ _ _ ?_ (Heap.SameBut.update ..))⟩
 | refine wpAny_bind (wpAny_pure (wpAny_pure ⟨x,rfl,wpAny_pure (hQ _ _ ?_ (Heap.SameBut.update ..))⟩))
 exact⟨_,Heap.get?_update_self _ ho (Obj.isFreed_of_fields (Obj.data_mapFields hd _)),(Obj.cls_mapFields ..).trans hc,by
  rw [Obj.data_mapFields hd]; simp⟩
theorem Qa7 {it l:Addr} {Q:Option Value->Shared->Prop} (hh:A.handled=none) (hit:IsRevT s.heap it l (-1))
  (hQ:∀ h' tk,Heap.ExtBut it s.heap h'->Q none { s with heap:=h',toks:=tk }):wpAny (model prog w) A (pyNext (.ref it)) Q E s:=by
 obtain⟨o,ho,hc,hd⟩:=id hit
 unfold pyNext
 refine wpAny_bind (wpAny_attempt (wpAny_callSpecial?_slot (name:=Str.ofString "__next__") hit.typeIs F.slot_rev_next
  (wpAny_call_entry F.slot_rev_next hit.typeIs F.entry_rev_next ?_ (F.args_rev_next_1 _))))
 unfold Builtin.«reversed.__next__»
 refine wpAny_bind (wpAny_of_eq (a:=(Value.ref it,[])) rfl ?_)
 try dsimp only
 refine wpAny_bind (wpAny_field ho hd (x:=.ref l) rfl ?_)
 refine wpAny_bind (wpAny_field ho hd (x:=rawInt (-1)) rfl ?_)
 show wpAny _ _ (if (-1:Int)<0 then _ else _) _ _ s
 rw [if_pos (by decide)]
 refine wpAny_bind (wpAny_rule ?_)
 refine wpAny_bind (show wpAny _ _ (setField (.ref it) 1 (rawInt (-1)) >>= fun _=>setField (.ref it) 0 .none) _ _ _ from wpAny_bind (wpAny_setField ho hd (by simp) ?_))
 have hd1:=Obj.data_mapFields hd (·.setIfInBounds 1 (rawInt (-1)))
 have ho1:=Heap.get?_update_self _ ho (Obj.isFreed_of_fields hd1)
 have sb1:Heap.SameBut it s.heap (s.heap.update it (Obj.mapFields (·.setIfInBounds 1 (rawInt (-1))))):=Heap.SameBut.update ..
 generalize s.heap.update it (Obj.mapFields (·.setIfInBounds 1 (rawInt (-1))))=h1 at ho1 sb1 ⊢
 refine wpAny_setField (s:={ s with heap:=h1 }) ho1 hd1 (by simp) ?_
 have sb2:Heap.SameBut it h1 (h1.update it (Obj.mapFields (·.setIfInBounds 0 Value.none))):=Heap.SameBut.update ..
 generalize h1.update it (Obj.mapFields (·.setIfInBounds 0 Value.none))=h2 at sb2 ⊢
 first
 | show wpAny _ _ (newExc (.type "StopIteration") [] >>= _) _ _ _
 | (refine wpAny_bind ?_; show wpAny _ _ (newExc (.type "StopIteration") [] >>= _) _ _ _)
 refine wpAny_bind ?_
 simp only [newExc,newTuple]
 refine wpAny_bind (wpAny_newObj_type ?_ (by size_fits))
 refine wpAny_bind (m:=firstArgMember _ _) (wpAny_of_eq (a:=Value.none) (by first | rfl | (simp only [firstArgMember]; rfl)) ?_)
 refine wpAny_newObj_type ?_ (by size_fits)
 simp only [raiseNew]
 refine wpAny_bind (wpAny_handled ?_)
 first | rw [show A.in1.handled=none from hh] | rw [hh]
 refine wpAny_bind (wpAny_pure (wpAny_throw ?_))
 refine wpAny_bind (wpAny_isInstance (T:="StopIteration") (b:=true) ⟨_,Heap.get?_push_size _ rfl,rfl⟩ isSubtype_stop ?_)
 exact wpAny_pure (hQ _ _ fun b o hb e=>(((Heap.ExtBut.refl _ _).push _).push _) b o hb (sb2.extBut b o hb (sb1.extBut b o hb e)))
end
end L3
end
section
namespace L3
open PySem PySem.Spec PyProof.Rows L2
noncomputable def Qi0 (d:D) (g:G):Res Src:=match QG g d with
 | some (false,ds)=>.ok ⟨fun g i=>if i=ds.length then some none else if i<ds.length then (match QG g d with
  | some (_,es)=>if es.length=ds.length then some es[ds.length - 1 - i]? else none
  | none=>none) else none,ds.length⟩ g
 | _=>.stuck
noncomputable def Qc0 (a:ME):MI:=fun σ g=>(a σ g).bind Qi0
noncomputable def Itv (b:Bool) (K:PySem.W.Frag) (a:Addr) (n:Nat):It :=
 ⟨fun i H=>∃ xs x,Sq b K H a xs∧xs.length=n∧i<n∧xs[n - 1 - i]?=some x,fun i H x H'=>H'=H∧∀ xs,Sq b K H a xs->xs[n - 1 - i]?=some x,fun i _=>i=n⟩
theorem QgH {P:Program} {w:World} {K:PySem.W.Frag} {tg:Expr} (a it:Addr) (n:Nat):Turn P w K tg (Itv false K a n) [it] it (fun i h=>IsRevT h it a ((n:Int) - 1 - (i:Int))) where
 mem:=by simp
 obj:=fun i h st b hb=>by
  have e:b=it:=by simpa using hb
  subst e
  obtain⟨o,e,c,d⟩:=st
  exact⟨o,e,fun v z=>by rw [d] at z; cases z⟩
 keep:=fun i h h' st k=>st.at fun o e=>k it (by simp) o e
 item:=by
  intro X hP hw hK hc i pins s σ H E I hf st hg
  subst hP hw hK
  obtain⟨xs,x,hq,hn,hi,hx⟩:=hg
  obtain⟨its,rv,p,hz⟩:=I.tuple (show SqT X.K H a xs from hq)
  obtain⟨u,hu,ru⟩:=rv.get hx
  have hl:=rv.length
  have h63:=Qat
  obtain⟨f0,f1,f2,f3,f4,f5⟩:=hf it (by simp)
  have e:(n:Int) - 1 - (i:Int)=((n - 1 - i:Nat):Int):=by omega
  rw [e] at st
  refine QaB st p (x:=u) (by simpa using hu) (by simp only [List.size_toArray] <;> omega) fun h' tk st' sb=>?_
  have I1:Inv X pins σ H { s with heap:=h',toks:=tk }:=I.turned (t':=tk) (fun b o hb e=>(sb.2 b hb).trans e) f0 f1 f3 f4 f5
  obtain⟨o,eo,c,d⟩:=id st'
  have e2:((n - 1 - i:Nat):Int) - 1=(n:Int) - 1 - ((i+1:Nat):Int):=by omega
  rw [e2] at st'
  exact⟨u,rfl,Qhu (s:={ s with heap:=h',toks:=tk }) eo c d (by decide) ⟨x,H,I1,ru,⟨rfl,fun ys hy=>by rw [I.tuple_inj hy hq]; exact hx⟩,st',fun b hb=>(hf b hb).1⟩⟩
 done:=by
  intro X hP hw hK hc i pins s σ H E I hf st hg
  subst hP hw hK
  have hg:i=n:=hg
  subst hg
  have e:(i:Int) - 1 - (i:Int) = -1:=by omega
  rw [e] at st
  obtain⟨f0,f1,f2,f3,f4,f5⟩:=hf it (by simp)
  exact Qa7 (I.ok.hd hc) st fun h' tk eb=>⟨rfl,I.turned (t':=tk) (fun b o hb e=>eb b o hb e) f0 f1 f3 f4 f5⟩
 self:=fun _ _ _ _ _ st h=>Qa6 st h
section
variable {X:Cx} {ca:Nat->Addr} {e:Expr} {me:ME} {p pos:Pos} {tg:Expr}
theorem QlE {ta:TA} (hg:Gl X "reversed") (hm:X.mg "reversed" = none) (ha:PA X [e] ta) (hs:starEach [e] X.env=[(false,eval e X.env)]) :
  PI X tg (.Call (.Name "reversed" p) [e] [] pos) (fun σ H R=>ta σ H fun vs H1=>∃ a xs,vs=[.ref a]∧SqT X.K H1 a xs∧R (Itv false X.K a xs.length) H1):=by
 intro pins s σ H R I h
 refine Call_ (Qas I hg hm boot_reversed (PyProof.Rows.callWith_type1 (thn (ha pos pins s σ H _ I h) fun us s1 ⟨vs,H1,I1,r1,q1⟩=>?_) hs rfl))
 obtain⟨a,xs,rfl,hq,q⟩:=q1
 cases r1 with
 | cons r rr =>
  cases rr
  cases r
  have h63:=Qat
  have fp:∀ c∈[s1.heap.objs.size],FpOk X pins H1 c:=fun c hc=>by
   have e:c=s1.heap.objs.size:=by simpa using hc
   subst e
   exact I1.fpOk (Nat.le_refl _) (I1.hok.fresh (Nat.le_refl _))
  obtain⟨its,rv,pl,hz⟩:=I1.tuple hq
  have hl:=rv.length
  refine JD pl (by simp only [List.size_toArray] <;> omega) fun tk=>?_
  have ho:({ s1 with heap:=s1.heap.push (revT a ((its.toArray.size:Int) - 1)),toks:=tk }:Shared).heap.get? s1.heap.objs.size=some (revT a ((its.toArray.size:Int) - 1)):=Heap.get?_push_size _ rfl
  have st:IsRevT (s1.heap.push (revT a ((its.toArray.size:Int) - 1))) s1.heap.objs.size a ((xs.length:Int) - 1 - ((0:Nat):Int)):=⟨_,Heap.get?_push_size _ rfl,rfl,by simp [revT,hl]⟩
  refine Qa6 (s:={ s1 with heap:=s1.heap.push (revT a ((its.toArray.size:Int) - 1)),toks:=tk }) st ?_
  exact⟨s1.heap.objs.size,[s1.heap.objs.size],_,_,H1,rfl,I1.kept (t':=tk) fun b o e=>Heap.get?_push_of_some _ e,QgH a _ xs.length,st,fp,q⟩
theorem QjU {K:PySem.W.Frag} {μ:List Addr} {H:Hp} {g:G} {a:Addr} {d:D} {b:Bool} {ds:List D} {n:Nat} (q:Den K μ H (.ref a) d) (h:QG g d=some (b,ds)) (hn:n=ds.length) :
  Sim K ca μ H ⟨fun g i=>if i=ds.length then some none else if i<ds.length then (match QG g d with
  | some (_,es)=>if es.length=ds.length then some es[ds.length - 1 - i]? else none
  | none=>none) else none,ds.length⟩ (Itv b K a n):=by
 subst hn
 intro i H1 μ1 g1 ex r
 dsimp only
 by_cases h1:i=ds.length
 ·rw [if_pos h1]; exact h1
 ·rw [if_neg h1]
  by_cases h2:i<ds.length
  ·rw [if_pos h2]
   cases k1:QG g1 d with
   | none=>trivial
   | some p1 =>
    obtain⟨c1,es⟩:=p1
    dsimp only
    by_cases h3:es.length=ds.length
    ·rw [if_pos h3]
     have f1:=Qaf (K:=K) (μ:=μ) (H:=H) (μ':=μ) (H':=H) (v:=.ref a) h k1
     subst f1
     obtain⟨z1,vs,w1,s1,d1s⟩:=Ya r (q.mono ex) k1
     cases w1
     have hx:es[ds.length - 1 - i]?=some (es[ds.length - 1 - i]'(by omega)):=by simp [show ds.length - 1 - i<es.length by omega]
     rw [hx]
     obtain⟨vx,hvx,qx⟩:=d1s.get hx
     have hvl:=d1s.length
     refine⟨⟨vs,vx,s1,by omega,h2,hvx⟩,fun x H' yl=>?_⟩
     obtain⟨rfl,u1⟩:=yl
     have:=u1 vs s1
     rw [hvx] at this; cases this
     exact⟨.refl,r,qx⟩
    ·rw [if_neg h3]; trivial
  ·rw [if_neg h2]; trivial
theorem QjV (hm:X.mg "reversed" = none) (he:PE3 ca X e me) (hg:Gl X "reversed":=by rfl) (hs:starEach [e] X.env=[(false,eval e X.env)]:=by rfl):PI3 ca X tg (.Call (.Name "reversed" p) [e] [] pos) (Qc0 me) :=
 fun pn Φ=>Qb8 (QlE (X:=xat X ca pn Φ) hg hm (YY he Qk hs pn Φ) hs) fun σ H R hQ=>by
  obtain⟨σ3,g,μ,Rp,q⟩:=hQ
  refine⟨σ3,g,μ,Rp,?_⟩
  unfold Qc0 at q
  unfold Qa mNil
  cases hm1:me σ3 g with
  | raise _ _=>rw [hm1] at q; exact q
  | stuck=>rw [hm1] at q; exact q.elim
  | ok d g1 =>
   rw [hm1,Res.bind_ok] at q
   rw [Res.bind_ok,Res.bind_ok]
   intro vs H1 μ1 ex r1 q1
   unfold Qi0 at q
   cases hs1:QG g1 d with
   | none=>rw [hs1] at q; exact q.elim
   | some p1 =>
    obtain⟨b,ds⟩:=p1
    rw [hs1] at q
    cases b with
    | true=>exact q.elim
    | false =>
     cases q1 with
     | @cons v _ _ _ n1 q1 =>
      cases q1
      obtain⟨a,ws,rfl,sq,dn⟩:=Ya r1 n1 hs1
      exact⟨a,ws,rfl,sq,q _ H1 μ1 ex r1 (QjU n1 hs1 dn.length)⟩
end
end L3
end
section
namespace SO
open PySem PyProof PyProof.Rows
noncomputable def gal':Bool->Keyed->Array Keyed->Nat->Nat->Nat->StateT SortSt Sem (Option Nat):=sortPriv% PySem.Builtin.gallop
noncomputable def look (lf:Bool) (ky:Keyed) (ar:Array Keyed) (bs i:Nat):StateT SortSt Sem (Option Bool):=do
 let z ← elem' ar (bs+i)
 if lf then lt' z ky else return (← lt' ky z).map (!·)
theorem QjW (lf:Bool) (ky:Keyed) (ar:Array Keyed) (bs n hn:Nat):gal' lf ky ar bs n hn=(do
 let mut lst:=0
 let mut o:=1
 let mut lo:=0
 let mut hi:=0
 let some r ← look lf ky ar bs hn | return none
 if r then
  let mx:=n - hn
  for _ in [0:n] do
   if o≥mx then break
   let some m ← look lf ky ar bs (hn+o) | return none
   if !m then break
   lst:=o
   o:=2*o+1
  lo:=hn+lst+1
  hi:=hn+min o mx
 else
  let mx:=hn+1
  for _ in [0:n] do
   if o≥mx then break
   let some f ← look lf ky ar bs (hn - o) | return none
   if f then break
   lst:=o
   o:=2*o+1
  lo:=hn+1 - min o mx
  hi:=hn - lst
 for _ in [0:n] do
  if lo≥hi then break
  let m:=lo+(hi - lo) / 2
  let some y ← look lf ky ar bs m | return none
  if y then lo:=m+1 else hi:=m
 return some hi):=rfl
end SO
end
section
namespace SO
open PySem PyProof PyProof.Rows
section
variable {A:Around} {E:Value->Shared->Prop} {s:Shared}
theorem Qs {σ α:Type} {M:Model} {c:Prop} [Decidable c] {m1 m2:StateT σ Sem α} {Q:α->σ->Prop} {st:σ} (h:c) (k:wpS M A E s m1 Q st):wpS M A E s (if c then m1 else m2) Q st:=by rw [if_pos h]; exact k
theorem Qu {σ α:Type} {M:Model} {c:Prop} [Decidable c] {m1 m2:StateT σ Sem α} {Q:α->σ->Prop} {st:σ} (h:¬ c) (k:wpS M A E s m2 Q st):wpS M A E s (if c then m1 else m2) Q st:=by rw [if_neg h]; exact k
theorem Qc1 {σ α:Type} {M:Model} {c:Prop} [Decidable c] {m1 m2:StateT σ Sem α} {Q:α->σ->Prop} {st:σ} (k1:wpS M A E s m1 Q st) (k2:wpS M A E s m2 Q st):wpS M A E s (if c then m1 else m2) Q st:=by
 split
 ·exact k1
 ·exact k2
theorem Zw {x y:Nat} (h:¬ x=y):¬ (x == y)=true:=fun e=>h (beq_iff_eq.mp e)
theorem QY {x y:Nat} (h:x=y):(x == y)=true:=beq_iff_eq.mpr h
theorem Qa8 {p:Prop} [Decidable p] (h:¬ p):¬ decide p=true:=fun e=>h (of_decide_eq_true e)
end
section
variable {prog:Program} {w:World} {A:Around} {E:Value->Shared->Prop} {s:Shared}
noncomputable abbrev KI (x:Keyed):Prop:=∃ n t,x.1=.int n t
noncomputable abbrev nk (x:Keyed):Int:=numOf x.1
theorem QgI {st:SortSt} {x y:Keyed} {Q:Option Bool->SortSt->Prop} (hk:kindOf st=oneType') (hx:KI x) (hy:KI y)
  (h:Q (some (decide (nk x<nk y))) st):wpS (model prog w) A E s (lt' x y) Q st:=by
 obtain⟨x1,x2⟩:=x
 obtain⟨y1,y2⟩:=y
 obtain⟨a,t,rfl⟩:=hx
 obtain⟨b,u,rfl⟩:=hy
 rw [lt'_eq]
 refine wpS_bind (wpS_get ?_)
 rw [hk,keyLt'_oneType]
 exact wpS_bind (wpS_lift (wpAny_attempt (oneLt_int ⟨rfl,wpS_pure h⟩)))
theorem QR {st:SortSt} {ar:Array Keyed} {i:Nat} {Q:Keyed->SortSt->Prop} (hi:i<ar.size) (h:Q ar[i] st) :
  wpS (model prog w) A E s (elem' ar i) Q st:=by
 rw [elem'_eq,getElem?_pos ar i hi]
 exact wpS_pure h
noncomputable def LK (lf:Bool) (kv v:Int):Bool:=if lf then decide (v<kv) else decide (v≤kv)
theorem QjX {st:SortSt} {lf:Bool} {ky:Keyed} {ar:Array Keyed} {bs i:Nat} {Q:Option Bool->SortSt->Prop} (hk:kindOf st=oneType')
  (hky:KI ky) (ha:∀ x∈ar,KI x) (hi:bs+i<ar.size) (h:Q (some (LK lf (nk ky) (nk ar[bs+i]))) st) :
  wpS (model prog w) A E s (look lf ky ar bs i) Q st:=by
 unfold look
 refine wpS_bind (QR hi ?_)
 have hz:=ha _ (Array.getElem_mem hi)
 cases lf with
 | true =>
  rw [if_pos rfl]
  exact QgI hk hz hky (by unfold LK at h; rw [if_pos rfl] at h; exact h)
 | false =>
  rw [if_neg (by decide)]
  refine wpS_bind (QgI hk hky hz (wpS_pure ?_))
  have e:(some (decide (nk ky<nk ar[bs+i]))).map (!·)=some (decide (nk ar[bs+i]≤nk ky)):=by
   show some (!decide _)=_
   rw [← decide_not]
   exact congrArg some (decide_eq_decide.mpr Int.not_lt)
  rw [e]
  unfold LK at h
  rw [if_neg (by decide)] at h
  exact h
theorem QlF {st:SortSt} {lf:Bool} {ky:Keyed} {ar:Array Keyed} {bs n hn:Nat} {Q:Option Nat->SortSt->Prop} (hk:kindOf st=oneType')
  (hky:KI ky) (ha:∀ x∈ar,KI x) (hb:bs+n≤ar.size) (hh:hn<n)
  (p:Nat->Bool) (hp:∀ i (h:bs+i<ar.size),i<n->p i=LK lf (nk ky) (nk ar[bs+i]))
  (mono:∀ i j,i≤j->j<n->p j=true->p i=true)
  (h:∀ k,k≤n->(∀ i,i<k->p i=true)->(∀ i,k≤i->i<n->p i=false)->Q (some k) st) :
  wpS (model prog w) A E s (gal' lf ky ar bs n hn) Q st:=by
 have ask:∀ {i:Nat} {R:Option Bool->SortSt->Prop},i<n->R (some (p i)) st->wpS (model prog w) A E s (look lf ky ar bs i) R st:=by
  intro i R hi hR
  exact QjX hk hky ha (by(clear hk hh; (first | lia | omega))) (by rw [← hp i (by(clear hk hh; (first | lia | omega))) hi]; exact hR)
 have bin:∀ {lo hi:Nat} {R:Option (Option Nat)×Nat×Nat->SortSt->Prop},lo≤hi->hi≤n->(∀ i,i<lo->p i=true)->(∀ i,hi≤i->i<n->p i=false) ->
   (∀ l k,k≤n->(∀ i,i<k->p i=true)->(∀ i,k≤i->i<n->p i=false)->R (none,l,k) st) ->
   wpS (model prog w) A E s (forIn [0:n] ((none,lo,hi):Option (Option Nat)×Nat×Nat) fun _ c=>do
    if c.2.1≥c.2.2 then pure (ForInStep.done (none,c.2.1,c.2.2)) else do
     let z ← look lf ky ar bs (c.2.1+(c.2.2 - c.2.1) / 2)
     match z with
     | some y=>if y=true then pure (ForInStep.yield (none,c.2.1+(c.2.2 - c.2.1) / 2+1,c.2.2)) else pure (ForInStep.yield (none,c.2.1,c.2.1+(c.2.2 - c.2.1) / 2))
     | _=>pure (ForInStep.done (some none,c.2.1,c.2.2))) R st:=by
  intro lo hi R h1 h2 h3 h4 hR
  refine wpS_forRange (I:=fun x c st'=>st'=st∧∃ l r,c=(none,l,r)∧l≤r∧r≤n∧r - l≤n - x∧(∀ i,i<l->p i=true)∧(∀ i,r≤i->i<n->p i=false)) ?step ?fin ⟨rfl,lo,hi,rfl,h1,h2,by(clear hk hb hh; (first | lia | omega)),h3,h4⟩
  case fin =>
   rintro c st' ⟨rfl,l,r,rfl,a1,a2,a3,a4,a5⟩
   have e:l=r:=by(clear hb hh h1 h2 hk a2; (first | lia | omega))
   subst e
   exact hR l l a2 a4 a5
  case step =>
   rintro x c st' _ hx ⟨rfl,l,r,rfl,a1,a2,a3,a4,a5⟩
   dsimp only
   by_cases hge:l≥r
   ·refine Qs hge ?_
    have e:l=r:=by(clear hb hh h1 h2 hx hk a2 a3; (first | lia | omega))
    subst e
    exact wpS_pure (hR l l a2 a4 a5)
   ·refine Qu hge ?_
    refine wpS_bind (ask (by(clear hb hh h1 h2 hx hk a1 a3; (first | lia | omega))) ?_)
    dsimp only
    cases hm:p (l+(r - l) / 2) with
    | true =>
     refine Qs rfl ?_
     exact wpS_pure ⟨rfl,_,r,rfl,by(clear hb hh h1 h2 hx hk a1 a2 a3 hm; (first | lia | omega)),a2,by(clear hb hh h1 h2 hk a1 a2 hm; (first | lia | omega)),fun i hi=>mono i _ (by(clear hb hh h1 h2 hx hk a1 a2 a3 hge hm; (first | lia | omega))) (by(clear hb hh h1 h2 hx hk a1 a3 hm hi; (first | lia | omega))) hm,a5⟩
    | false =>
     refine Qu (by decide) ?_
     refine wpS_pure ⟨rfl,l,_,rfl,by(clear hb hh h1 h2 hx hk a1 a2 a3 hge hm; (first | lia | omega)),by(clear hb hh h1 h2 hx hk a1 a3 hm; (first | lia | omega)),by(clear hb hh h1 h2 hk a1 a2 hm; (first | lia | omega)),a4,fun i q1 q2=>?_⟩
     cases hi:p i with
     | false=>rfl
     | true=>rw [mono _ i q1 q2 hi] at hm; cases hm
 rw [QjW]
 refine wpS_bind (ask hh ?_)
 dsimp only
 cases hq:p hn with
 | true =>
  refine Qs rfl ?_
  refine wpS_bind (wpS_forRange (I:=fun x c st'=>st'=st∧∃ l o,c=(none,l,o)∧l+1≤o∧x+1≤o∧hn+l<n∧p (hn+l)=true) ?step ?fin ⟨rfl,0,1,rfl,by(clear hk hb hh hq; (first | lia | omega)),by(clear hk hb hh hq; (first | lia | omega)),by(clear hk hb hq; (first | lia | omega)),hq⟩)
  case fin =>
   rintro c st' ⟨rfl,l,o,rfl,a1,a2,a3,a4⟩
   dsimp only
   refine wpS_bind (bin (by(clear hb hq hk a2 a4; (first | lia | omega))) (by(clear hb hq hk a1 a2 a3 a4; (first | lia | omega))) (fun i hi=>mono i _ (by(clear hb hh hq hk a1 a2 a3 a4; (first | lia | omega))) a3 a4) (fun i q1 q2=>absurd q2 (by(clear hb hq hk a1 a3 a4; (first | lia | omega)))) fun l' k b1 b2 b3=>wpS_pure (h k b1 b2 b3))
  case step =>
   rintro x c st' _ hx ⟨rfl,l,o,rfl,a1,a2,a3,a4⟩
   dsimp only
   by_cases hge:o≥n - hn
   ·refine Qs hge ?_
    refine wpS_pure ?_
    dsimp only
    exact(wpS_bind (bin (by(clear hb hq hx hk a2 a4; (first | lia | omega))) (by(clear hb hq hx hk a1 a2 a3 a4; (first | lia | omega))) (fun i hi=>mono i _ (by(clear hb hh hq hx hk a1 a2 a3 a4 hge; (first | lia | omega))) a3 a4) (fun i q1 q2=>absurd q2 (by(clear hb hq hx hk a1 a2 a3 a4; (first | lia | omega)))) fun l' k b1 b2 b3=>wpS_pure (h k b1 b2 b3)))
   ·refine Qu hge ?_
    refine wpS_bind (ask (by(clear hb hq hx hk a1 a2 a3 a4; (first | lia | omega))) ?_)
    dsimp only
    cases hm:p (hn+o) with
    | true =>
     refine Qu (by decide) ?_
     exact wpS_pure ⟨rfl,o,_,rfl,by(clear hb hh hq hx hk a1 a2 a3 a4 hge hm; (first | lia | omega)),by(clear hb hh hq hx hk a1 a3 a4 hge hm; (first | lia | omega)),by(clear hb hq hx hk a1 a2 a3 a4 hm; (first | lia | omega)),hm⟩
    | false =>
     refine Qs (by decide) ?_
     refine wpS_pure ?_
     dsimp only
     refine(wpS_bind (bin (by(clear hb hh hq hx hk a2 a3 a4 hm; (first | lia | omega))) (by(clear hb hq hx hk a1 a2 a3 a4 hm; (first | lia | omega))) (fun i hi=>mono i _ (by(clear hb hh hq hx hk a1 a2 a3 a4 hge hm; (first | lia | omega))) a3 a4) (fun i q1 q2=>?_) fun l' k b1 b2 b3=>wpS_pure (h k b1 b2 b3)))
     cases hi:p i with
     | false=>rfl
     | true=>rw [mono (hn+o) i (by(clear hb hh hq hx hk a1 a2 a3 a4 hm q2 hi; (first | lia | omega))) q2 hi] at hm; cases hm
 | false =>
  rw [if_neg (by decide)]
  have lowF:∀ {l:Nat},l≤hn->p (hn - l)=false->∀ i,hn - l≤i->i<n->p i=false:=by
   intro l _ hl i q1 q2
   cases hi:p i with
   | false=>rfl
   | true=>rw [mono (hn - l) i q1 q2 hi] at hl; cases hl
  refine wpS_bind (wpS_forRange (I:=fun x c st'=>st'=st∧∃ l o,c=(none,l,o)∧l+1≤o∧x+1≤o∧l≤hn∧p (hn - l)=false) ?step ?fin ⟨rfl,0,1,rfl,by(clear hk hb hh hq; (first | lia | omega)),by(clear hk hb hh hq; (first | lia | omega)),by(clear hk hb hh hq; (first | lia | omega)),hq⟩)
  case fin =>
   rintro c st' ⟨rfl,l,o,rfl,a1,a2,a3,a4⟩
   dsimp only
   refine wpS_bind (bin (by(clear hb hh hq hk a2 a4; (first | lia | omega))) (by(clear hb hq hk a1 a2 a4; (first | lia | omega))) (fun i hi=>absurd hi (by(clear hb hq hk a1 a3 a4; (first | lia | omega)))) (lowF a3 a4) fun l' k b1 b2 b3=>wpS_pure (h k b1 b2 b3))
  case step =>
   rintro x c st' _ hx ⟨rfl,l,o,rfl,a1,a2,a3,a4⟩
   dsimp only
   by_cases hge:o≥hn+1
   ·refine Qs hge ?_
    refine wpS_pure ?_
    dsimp only
    exact(wpS_bind (bin (by(clear hb hh hq hx hk a2 a4; (first | lia | omega))) (by(clear hb hq hx hk a1 a2 a4 hge; (first | lia | omega))) (fun i hi=>absurd hi (by(clear hb hh hq hx hk a1 a2 a3 a4; (first | lia | omega)))) (lowF a3 a4) fun l' k b1 b2 b3=>wpS_pure (h k b1 b2 b3)))
   ·refine Qu hge ?_
    refine wpS_bind (ask (by(clear hb hq hx hk a1 a3 a4; (first | lia | omega))) ?_)
    dsimp only
    cases hm:p (hn - o) with
    | true =>
     refine Qs rfl ?_
     refine wpS_pure ?_
     dsimp only
     exact(wpS_bind (bin (by(clear hb hh hq hx hk a2 a4 hm; (first | lia | omega))) (by(clear hb hq hx hk a1 a2 a4 hge hm; (first | lia | omega))) (fun i hi=>mono i (hn - o) (by(clear hb hh hq hx hk a1 a2 a3 a4 hm; (first | lia | omega))) (by(clear hb hq hx hk a1 a3 a4 hm hi; (first | lia | omega))) hm) (lowF a3 a4) fun l' k b1 b2 b3=>wpS_pure (h k b1 b2 b3)))
    | false =>
     refine Qu (by decide) ?_
     exact wpS_pure ⟨rfl,o,_,rfl,by(clear hb hh hq hx hk a1 a2 a3 a4 hge hm; (first | lia | omega)),by(clear hb hh hq hx hk a1 a3 a4 hge hm; (first | lia | omega)),by(clear hb hh hq hx hk a1 a2 a3 a4 hm; (first | lia | omega)),hm⟩
end
end SO
end
section
namespace SO
open PySem PyProof PyProof.Rows
noncomputable def mlo':Array Keyed->Array Keyed->StateT SortSt Sem (Array Keyed):=sortPriv% PySem.Builtin.mergeLo
noncomputable def mhi':Array Keyed->Array Keyed->StateT SortSt Sem (Array Keyed):=sortPriv% PySem.Builtin.mergeHi
noncomputable def setG (g:Nat):StateT SortSt Sem Unit:=modify fun z=>SortSt.mk' (kindOf z) (arrOf z) (pendingOf z) g (failedOf z)
end SO
end
section
namespace SO
open PySem PyProof PyProof.Rows
noncomputable abbrev Srt (l:List Keyed):Prop:=l.Pairwise fun x y=>nk x≤nk y
structure JL (o p q t:List Keyed):Prop where
 perm:(o++(p++q)).Perm t
 sp:Srt (o++p)
 sq:Srt (o++q)
theorem JL.swap {o p q t:List Keyed} (h:JL o p q t):JL o q p t :=
 ⟨(List.Perm.append_left o List.perm_append_comm).trans h.perm,h.sq,h.sp⟩
theorem JL.take {o x p q t:List Keyed} (h:JL o (x++p) q t) (c:∀ u∈x,∀ v∈q,nk u≤nk v):JL (o++x) p q t:=by
 refine⟨by rw [List.append_assoc,← List.append_assoc x]; exact h.perm,by rw [List.append_assoc]; exact h.sp,?_⟩
 have h1:=h.sp
 rw [← List.append_assoc] at h1
 have h2:=List.pairwise_append.mp h.sq
 refine List.pairwise_append.mpr ⟨(List.pairwise_append.mp h1).1,h2.2.1,fun u hu v hv=>?_⟩
 rcases List.mem_append.mp hu with hu | hu
 ·exact h2.2.2 u hu v hv
 ·exact c u hu v hv
noncomputable abbrev Mrg (out a b:Array Keyed):Prop:=out.toList.Perm (a.toList++b.toList)∧Srt out.toList
theorem Qch (a:Array Keyed) (i:Nat):(a.extract i a.size).toList=a.toList.drop i:=by
 rw [Array.toList_extract,List.extract_eq_take_drop,List.take_of_length_le]
 simp
theorem Qi1 (a:Array Keyed) (i k:Nat):(a.extract i (i+k)).toList=(a.toList.drop i).take k:=by
 rw [Array.toList_extract,List.extract_eq_take_drop,Nat.add_sub_cancel_left]
theorem Yt {a:Array Keyed} {i:Nat} (h:i<a.size):nk a[i]=K a i:=(K_eq h).symm
theorem QaK {a:Array Keyed} {i:Nat} {y:Keyed} (h:y∈a.toList.drop i):∃ m,i≤m∧m<a.size∧nk y=K a m:=by
 obtain⟨m,hm,e⟩:=List.getElem_of_mem h
 rw [List.length_drop,Array.length_toList] at hm
 rw [List.getElem_drop,Array.getElem_toList] at e
 exact⟨i+m,by(clear hm e; (first | lia | omega)),by(clear e; (first | lia | omega)),by rw [← e,Yt]⟩
theorem Jk {a:Array Keyed} {i k:Nat} {y:Keyed} (h:y∈(a.toList.drop i).take k):∃ m,i≤m∧m<i+k∧m<a.size∧nk y=K a m:=by
 obtain⟨m,hm,e⟩:=List.getElem_of_mem h
 rw [List.length_take,List.length_drop,Array.length_toList] at hm
 rw [List.getElem_take,List.getElem_drop,Array.getElem_toList] at e
 exact⟨i+m,by(clear hm e; (first | lia | omega)),by(clear e; (first | lia | omega)),by(clear e; (first | lia | omega)),by rw [← e,Yt]⟩
theorem QgJ {a:Array Keyed} {i:Nat} (h:i<a.size):a.toList.drop i=a[i]::a.toList.drop (i+1):=by
 rw [List.drop_eq_getElem_cons (by rw [Array.length_toList]; exact h),Array.getElem_toList]
structure Mid (a b r:Array Keyed) (i j:Nat):Prop where
 jl:JL r.toList (a.toList.drop i) (b.toList.drop j) (a.toList++b.toList)
 hi:i≤a.size
 hj:j≤b.size
theorem Mid.size {a b r:Array Keyed} {i j:Nat} (M:Mid a b r i j):r.size+(a.size - i)+(b.size - j)=a.size+b.size:=by
 have:=M.jl.perm.length_eq
 simp only [List.length_append,List.length_drop,Array.length_toList] at this
 (first | lia | omega)
theorem Mid.pushA {a b r:Array Keyed} {i j:Nat} (M:Mid a b r i j) (h:i<a.size) (c:∀ m,j≤m->m<b.size->K a i≤K b m):Mid a b (r.push a[i]) (i+1) j:=by
 refine⟨?_,h,M.hj⟩
 rw [Array.toList_push]
 refine JL.take (by have:=M.jl; rw [QgJ h] at this; exact this) fun u hu v hv=>?_
 obtain⟨m,h1,h2,e⟩:=QaK hv
 rw [List.mem_singleton.mp hu,Yt h,e]
 exact c m h1 h2
theorem Mid.pushB {a b r:Array Keyed} {i j:Nat} (M:Mid a b r i j) (h:j<b.size) (c:∀ m,i≤m->m<a.size->K b j≤K a m):Mid a b (r.push b[j]) i (j+1):=by
 refine⟨?_,M.hi,h⟩
 rw [Array.toList_push]
 refine(JL.take (by have:=M.jl.swap; rw [QgJ h] at this; exact this) fun u hu v hv=>?_).swap
 obtain⟨m,h1,h2,e⟩:=QaK hv
 rw [List.mem_singleton.mp hu,Yt h,e]
 exact c m h1 h2
theorem Mid.manyA {a b r:Array Keyed} {i j k:Nat} (M:Mid a b r i j) (h:i+k≤a.size) (c:∀ m n,i≤m->m<i+k->j≤n->n<b.size->K a m≤K b n):Mid a b (r++a.extract i (i+k)) (i+k) j:=by
 refine⟨?_,h,M.hj⟩
 rw [Array.toList_append,Qi1]
 refine JL.take (by rw [← List.drop_drop,List.take_append_drop]; exact M.jl) fun u hu v hv=>?_
 obtain⟨m,h1,h2,h3,e⟩:=Jk hu
 obtain⟨n,h4,h5,e2⟩:=QaK hv
 rw [e,e2]
 exact c m n h1 h2 h4 h5
theorem Mid.manyB {a b r:Array Keyed} {i j k:Nat} (M:Mid a b r i j) (h:j+k≤b.size) (c:∀ m n,j≤m->m<j+k->i≤n->n<a.size->K b m≤K a n):Mid a b (r++b.extract j (j+k)) i (j+k):=by
 refine⟨?_,M.hi,h⟩
 rw [Array.toList_append,Qi1]
 refine(JL.take (by rw [← List.drop_drop,List.take_append_drop]; exact M.jl.swap) fun u hu v hv=>?_).swap
 obtain⟨m,h1,h2,h3,e⟩:=Jk hu
 obtain⟨n,h4,h5,e2⟩:=QaK hv
 rw [e,e2]
 exact c m n h1 h2 h4 h5
theorem Mid.endB {a b r:Array Keyed} {i j:Nat} (M:Mid a b r i j) (h:j=b.size):Mrg (r++a.extract i a.size++b.extract j b.size) a b:=by
 have e:b.toList.drop j=[]:=List.drop_eq_nil_of_le (by rw [Array.length_toList]; (first | lia | omega))
 have p:=M.jl.perm
 have q:=M.jl.sp
 rw [e,List.append_nil] at p
 rw [Mrg,Array.toList_append,Array.toList_append,Qch,Qch,e,List.append_nil]
 exact⟨p,q⟩
theorem Mid.endA {a b r:Array Keyed} {i j:Nat} (M:Mid a b r i j) (h:i=a.size):Mrg (r++a.extract i a.size++b.extract j b.size) a b:=by
 have e:a.toList.drop i=[]:=List.drop_eq_nil_of_le (by rw [Array.length_toList]; (first | lia | omega))
 have p:=M.jl.perm
 have q:=M.jl.sq
 rw [e,List.nil_append] at p
 rw [Mrg,Array.toList_append,Array.toList_append,Qch,Qch,e,List.append_nil]
 exact⟨p,q⟩
theorem Mid.lastA {a b r:Array Keyed} {i j:Nat} (M:Mid a b r i j) (h:i+1=a.size) (c:∀ m,m<b.size->K b m≤K a (a.size - 1)):Mrg (r++b.extract j b.size++a.extract i a.size) a b:=by
 have N:=M.manyB (k:=b.size - j) (by have:=M.hj; (clear h; (first | lia | omega))) fun m n h1 h2 h3 h4=>by
  rw [show n=a.size - 1 by(clear h1 h2; (first | lia | omega))]
  exact c m (by have:=M.hj; (clear h h1 h3 h4; (first | lia | omega)))
 have e:j+(b.size - j)=b.size:=by have:=M.hj; (clear h; (first | lia | omega))
 rw [e] at N
 have:=N.endB rfl
 rw [show b.extract b.size b.size = #[] by simp,Array.append_empty] at this
 exact this
end SO
end
section
namespace SO
open PySem PyProof PyProof.Rows
noncomputable abbrev StO:=Option (Array Keyed)×Array Keyed×Nat×Nat×Nat×Nat
noncomputable abbrev StR:=Option (Array Keyed)×Array Keyed×Nat×Nat×Nat
noncomputable abbrev StL:=Option (Array Keyed)×Array Keyed×Nat×Nat×Nat×Nat×Nat
noncomputable def QjY (a b:Array Keyed) (g:Nat) (r:Array Keyed) (i j ac bc:Nat):StateT SortSt Sem (ForInStep StO):=do
 let z ← lt' (← elem' b j) (← elem' a i)
 match z with
 | some y =>
  if y=true then do
   let r:=r.push (← elem' b j)
   if (j+1 == b.size)=true then pure (ForInStep.done (some (r++a.extract i a.size++b.extract (j+1) b.size),r,i,j+1,0,bc+1))
   else if bc+1≥g then pure (ForInStep.done (none,r,i,j+1,0,bc+1)) else pure (ForInStep.yield (none,r,i,j+1,0,bc+1))
  else do
   let r:=r.push (← elem' a i)
   if (i+1+1 == a.size)=true then pure (ForInStep.done (some (r++b.extract j b.size++a.extract (i+1) a.size),r,i+1,j,ac+1,0))
   else if ac+1≥g then pure (ForInStep.done (none,r,i+1,j,ac+1,0)) else pure (ForInStep.yield (none,r,i+1,j,ac+1,0))
 | _=>pure (ForInStep.done (some (r++a.extract i a.size++b.extract j b.size),r,i,j,ac,bc))
noncomputable def Qci (a b:Array Keyed) (g k k2 i j:Nat) (r:Array Keyed):StateT SortSt Sem (ForInStep StL):=do
 let r:=r.push (← elem' a i)
 if (i+1+1 == a.size)=true then pure (ForInStep.done (some (r++b.extract j b.size++a.extract (i+1) a.size),r,i+1,j,g,k,k2))
 else if (decide (k<7) && decide (k2<7))=true then pure (ForInStep.done (none,r,i+1,j,g,k,k2))
 else pure (ForInStep.yield (none,r,i+1,j,g,k,k2))
noncomputable def Qcj (a b:Array Keyed) (g k bc i j:Nat) (r:Array Keyed):StateT SortSt Sem (ForInStep StL):=do
 let r:=r.push (← elem' b j)
 if (j+1 == b.size)=true then pure (ForInStep.done (some (r++a.extract i a.size++b.extract (j+1) b.size),r,i,j+1,g,k,bc)) else do
  let z ← gal' true (← elem' a i) b (j+1) (b.size - (j+1)) 0
  match z with
  | some y =>
   if y > 0 then
    if (j+1+y == b.size)=true then pure (ForInStep.done (some (r++b.extract (j+1) (j+1+y)++a.extract i a.size++b.extract (j+1+y) b.size),r++b.extract (j+1) (j+1+y),i,j+1+y,g,k,y))
    else Qci a b g k y i (j+1+y) (r++b.extract (j+1) (j+1+y))
   else Qci a b g k y i (j+1) r
  | _=>pure (ForInStep.done (some (r++a.extract i a.size++b.extract (j+1) b.size),r,i,j+1,g,k,bc))
noncomputable def Qc2 (a b r:Array Keyed) (i j ac bc g:Nat):StateT SortSt Sem (ForInStep StL):=do
 setG g
 let z ← gal' false (← elem' b j) a i (a.size - i) 0
 match z with
 | some y =>
  if y > 0 then
   if (i+y+1 == a.size)=true then pure (ForInStep.done (some (r++a.extract i (i+y)++b.extract j b.size++a.extract (i+y) a.size),r++a.extract i (i+y),i+y,j,g,y,bc))
   else if (i+y == a.size)=true then pure (ForInStep.done (some (r++a.extract i (i+y)++a.extract (i+y) a.size++b.extract j b.size),r++a.extract i (i+y),i+y,j,g,y,bc))
   else Qcj a b g y bc (i+y) j (r++a.extract i (i+y))
  else Qcj a b g y bc i j r
 | _=>pure (ForInStep.done (some (r++a.extract i a.size++b.extract j b.size),r,i,j,g,ac,bc))
noncomputable def QdJ (a b r:Array Keyed) (i j ac bc g:Nat):StateT SortSt Sem (ForInStep StR):=do
 liftM (rule "list.sort.gallop")
 let c ← forIn [0:a.size+b.size] ((none,r,i,j,g+1,ac,bc):StL) fun _ c =>
  if c.snd.snd.snd.snd.fst > 1 then Qc2 a b c.snd.fst c.snd.snd.fst c.snd.snd.snd.fst c.snd.snd.snd.snd.snd.fst c.snd.snd.snd.snd.snd.snd (c.snd.snd.snd.snd.fst - 1)
  else Qc2 a b c.snd.fst c.snd.snd.fst c.snd.snd.snd.fst c.snd.snd.snd.snd.snd.fst c.snd.snd.snd.snd.snd.snd c.snd.snd.snd.snd.fst
 match c.fst with
 | some o=>pure (ForInStep.done (some o,c.snd.fst,c.snd.snd.fst,c.snd.snd.snd.fst,c.snd.snd.snd.snd.fst))
 | none=>do
  setG (c.snd.snd.snd.snd.fst+1)
  pure (ForInStep.yield (none,c.snd.fst,c.snd.snd.fst,c.snd.snd.snd.fst,c.snd.snd.snd.snd.fst+1))
noncomputable def QdK (a b r:Array Keyed) (i j g:Nat):StateT SortSt Sem (ForInStep StR):=do
 let c ← forIn [0:a.size+b.size] ((none,r,i,j,0,0):StO) fun _ c=>QjY a b g c.snd.fst c.snd.snd.fst c.snd.snd.snd.fst c.snd.snd.snd.snd.fst c.snd.snd.snd.snd.snd
 match c.fst with
 | some o=>pure (ForInStep.done (some o,c.snd.fst,c.snd.snd.fst,c.snd.snd.snd.fst,g))
 | none=>QdJ a b c.snd.fst c.snd.snd.fst c.snd.snd.snd.fst c.snd.snd.snd.snd.fst c.snd.snd.snd.snd.snd g
noncomputable def QlG (a b r:Array Keyed) (g:Nat):StateT SortSt Sem (Array Keyed):=do
 let c ← forIn [0:a.size+b.size] ((none,r,0,1,g):StR) fun _ c=>QdK a b c.snd.fst c.snd.snd.fst c.snd.snd.snd.fst c.snd.snd.snd.snd
 match c.fst with
 | some o=>pure o
 | none=>liftM (unsupported "internal:list.sort.merge-bound")
theorem QlH (a b:Array Keyed):mlo' a b=(do
 liftM (rule "list.sort.merge-lo")
 let x ← elem' b 0
 if (1 == b.size)=true then pure (#[x]++a.extract 0 a.size++b.extract 1 b.size)
 else if (0+1 == a.size)=true then pure (#[x]++b.extract 1 b.size++a.extract 0 a.size)
 else do
  let t ← get
  QlG a b #[x] (gallopOf t)):=by
 kernel_rfl
end SO
end
section
namespace SO
open PySem PyProof PyProof.Rows
section
variable {prog:Program} {w:World} {A:Around} {E:Value->Shared->Prop} {s:Shared}
noncomputable def Alike (st st':SortSt):Prop:=kindOf st'=kindOf st∧arrOf st'=arrOf st∧pendingOf st'=pendingOf st∧failedOf st'=failedOf st
theorem Alike.refl (st:SortSt):Alike st st:=⟨rfl,rfl,rfl,rfl⟩
theorem QeC {x:Array Keyed} (sx:SortedTo x x.size):Srt x.toList:=by
 refine List.pairwise_iff_getElem.mpr fun i j hi hj hij=>?_
 rw [Array.length_toList] at hi hj
 rw [Array.getElem_toList,Array.getElem_toList,Yt hi,Yt hj]
 exact sx i j (Nat.le_of_lt hij) hj
theorem Qck {st:SortSt} {g:Nat} {Q:Unit->SortSt->Prop} (h:∀ st',(∀ z,Alike z st->Alike z st')->Q () st'):wpS (model prog w) A E s (setG g) Q st:=by
 unfold setG
 exact wpS_modify (h _ fun z hz=>hz)
theorem LK_f {kv v:Int}:LK false kv v=decide (v≤kv):=rfl
theorem LK_t {kv v:Int}:LK true kv v=decide (v<kv):=rfl
theorem Qah {st:SortSt} {lf:Bool} {ky:Keyed} {ar:Array Keyed} {bs n hn:Nat} {Q:Option Nat->SortSt->Prop} (hk:kindOf st=oneType')
  (hky:KI ky) (ha:∀ x∈ar,KI x) (hb:bs+n≤ar.size) (hh:hn<n) (so:∀ i j,i≤j->j<n->K ar (bs+i)≤K ar (bs+j))
  (h:∀ k,k≤n->(∀ i,i<k->LK lf (nk ky) (K ar (bs+i))=true)->(∀ i,k≤i->i<n->LK lf (nk ky) (K ar (bs+i))=false)->Q (some k) st) :
  wpS (model prog w) A E s (gal' lf ky ar bs n hn) Q st:=by
 refine QlF hk hky ha hb hh (fun i=>LK lf (nk ky) (K ar (bs+i))) (fun i hi _=>by rw [Yt hi]) (fun i j hij hj hp=>?_) h
 have:=so i j hij hj
 cases lf with
 | true=>rw [LK_t] at hp ⊢; exact decide_eq_true (Int.lt_of_le_of_lt this (of_decide_eq_true hp))
 | false=>rw [LK_f] at hp ⊢; exact decide_eq_true (Int.le_trans this (of_decide_eq_true hp))
structure Two (a b:Array Keyed):Prop where
 ka:∀ x∈a,KI x
 kb:∀ x∈b,KI x
 sa:SortedTo a a.size
 sb:SortedTo b b.size
 c0:K b 0≤K a 0
 cl:∀ m,m<b.size->K b m≤K a (a.size - 1)
structure Am (a b r:Array Keyed) (i j n:Nat):Prop where
 mid:Mid a b r i j
 hi:i+1<a.size
 hj:j<b.size
 hn:n≤r.size
noncomputable def QmC (st:SortSt) (a b:Array Keyed) (n N:Nat):ForInStep StO->SortSt->Prop
 | .done c,st'=>st'=st∧((∃ out r i j ac bc,c=(some out,r,i,j,ac,bc)∧Mrg out a b)∨∃ r i j ac bc,c=(none,r,i,j,ac,bc)∧Am a b r i j n)
 | .yield c,st'=>st'=st∧∃ r i j ac bc,c=(none,r,i,j,ac,bc)∧Am a b r i j N
noncomputable def QjZ (st:SortSt) (a b:Array Keyed) (n N:Nat):ForInStep StL->SortSt->Prop
 | .done c,st'=>Alike st st'∧((∃ out r i j g ac bc,c=(some out,r,i,j,g,ac,bc)∧Mrg out a b)∨∃ r i j g ac bc,c=(none,r,i,j,g,ac,bc)∧Am a b r i j n)
 | .yield c,st'=>Alike st st'∧∃ r i j g ac bc,c=(none,r,i,j,g,ac,bc)∧Am a b r i j N
noncomputable def Qj0 (st:SortSt) (a b:Array Keyed) (N:Nat):ForInStep StR->SortSt->Prop
 | .done c,st'=>Alike st st'∧∃ out r i j g,c=(some out,r,i,j,g)∧Mrg out a b
 | .yield c,st'=>Alike st st'∧∃ r i j g,c=(none,r,i,j,g)∧Am a b r i j N
variable {st st2:SortSt} {a b r:Array Keyed} {i j n N g:Nat}
theorem Am.no (M:Am a b r i j n) (h:a.size+b.size≤n):False:=by
 have:=M.mid.size
 have:=M.hi
 have:=M.hn
 (first | lia | omega)
theorem Am.pushA (M:Am a b r i j n) (h:i<a.size) (c:∀ m,j≤m->m<b.size->K a i≤K b m) (e:¬ i+1+1=a.size) (hN:N≤n+1):Am a b (r.push a[i]) (i+1) j N :=
 ⟨M.mid.pushA h c,by have:=M.hi; (first | lia | omega),M.hj,by rw [Array.size_push]; have:=M.hn; (first | lia | omega)⟩
theorem Am.pushB (M:Am a b r i j n) (c:∀ m,i≤m->m<a.size->K b j≤K a m) (e:¬ j+1=b.size) (hN:N≤n+1):Am a b (r.push (b[j]'M.hj)) i (j+1) N :=
 ⟨M.mid.pushB M.hj c,M.hi,by have:=M.hj; (first | lia | omega),by rw [Array.size_push]; have:=M.hn; (first | lia | omega)⟩
theorem QhT {ac bc:Nat} (T:Two a b) (hk:kindOf st=oneType') (M:Am a b r i j n) (hN:N≤n+1) :
  wpS (model prog w) A E s (QjY a b g r i j ac bc) (QmC st a b N N) st:=by
 have hi:=Nat.lt_of_succ_lt M.hi
 have hj:=M.hj
 unfold QjY
 refine wpS_bind (QR hj (wpS_bind (QR hi (wpS_bind (QgI hk (T.kb _ (Array.getElem_mem hj)) (T.ka _ (Array.getElem_mem hi)) ?_)))))
 rw [Yt hj,Yt hi]
 by_cases hw:K b j<K a i
 ·refine Qs (decide_eq_true hw) (wpS_bind (QR hj ?_))
  have c:∀ m,i≤m->m<a.size->K b j≤K a m:=fun m h1 h2=>Int.le_trans (Int.le_of_lt hw) (T.sa i m h1 h2)
  by_cases e:j+1=b.size
  ·exact Qs (QY e) (wpS_pure ⟨rfl,.inl ⟨_,_,_,_,_,_,rfl,(M.mid.pushB hj c).endB e⟩⟩)
  have M':=M.pushB c e hN
  exact Qu (Zw e) (Qc1 (wpS_pure ⟨rfl,.inr ⟨_,_,_,_,_,rfl,M'⟩⟩) (wpS_pure ⟨rfl,_,_,_,_,_,rfl,M'⟩))
 ·refine Qu (Qa8 hw) (wpS_bind (QR hi ?_))
  have c:∀ m,j≤m->m<b.size->K a i≤K b m:=fun m h1 h2=>Int.le_trans (Int.not_lt.mp hw) (T.sb j m h1 h2)
  by_cases e:i+1+1=a.size
  ·exact Qs (QY e) (wpS_pure ⟨rfl,.inl ⟨_,_,_,_,_,_,rfl,(M.mid.pushA hi c).lastA e T.cl⟩⟩)
  have M':=M.pushA hi c e hN
  exact Qu (Zw e) (Qc1 (wpS_pure ⟨rfl,.inr ⟨_,_,_,_,_,rfl,M'⟩⟩) (wpS_pure ⟨rfl,_,_,_,_,_,rfl,M'⟩))
theorem QbK {k k2:Nat} (T:Two a b) (al:Alike st st2) (M:Am a b r i j n) (c:∀ m,j≤m->m<b.size->K a i≤K b m) (hN:N≤n+1) :
  wpS (model prog w) A E s (Qci a b g k k2 i j r) (QjZ st a b N N) st2:=by
 have hi:=Nat.lt_of_succ_lt M.hi
 unfold Qci
 refine wpS_bind (QR hi ?_)
 by_cases e:i+1+1=a.size
 ·exact Qs (QY e) (wpS_pure ⟨al,.inl ⟨_,_,_,_,_,_,_,rfl,(M.mid.pushA hi c).lastA e T.cl⟩⟩)
 have M':=M.pushA hi c e hN
 exact Qu (Zw e) (Qc1 (wpS_pure ⟨al,.inr ⟨_,_,_,_,_,_,rfl,M'⟩⟩) (wpS_pure ⟨al,_,_,_,_,_,_,rfl,M'⟩))
theorem QeD {P:Nat->Prop} {x m:Nat} (h:P (x+(m - x))) (l:x≤m):P m:=by
 rwa [Nat.add_sub_cancel' l] at h
theorem QbL {k bc:Nat} (T:Two a b) (al:Alike st st2) (k2:kindOf st2=oneType') (M:Am a b r i j n) (c:∀ m,i≤m->m<a.size->K b j≤K a m) (hN:N≤n+1) :
  wpS (model prog w) A E s (Qcj a b g k bc i j r) (QjZ st a b N N) st2:=by
 have hi:=Nat.lt_of_succ_lt M.hi
 have hj:=M.hj
 unfold Qcj
 refine wpS_bind (QR hj ?_)
 by_cases e:j+1=b.size
 ·exact Qs (QY e) (wpS_pure ⟨al,.inl ⟨_,_,_,_,_,_,_,rfl,(M.mid.pushB hj c).endB e⟩⟩)
 have M2:Am a b (r.push b[j]) i (j+1) n:=M.pushB c e (Nat.le_succ n)
 have hj2:=M2.hj
 refine Qu (Zw e) (wpS_bind (QR hi (wpS_bind ?_)))
 refine Qah k2 (T.ka _ (Array.getElem_mem hi)) T.kb (Nat.le_of_eq (Nat.add_sub_cancel' (Nat.le_of_lt hj2))) (Nat.sub_pos_of_lt hj2) (fun x y h1 h2=>T.sb _ _ (Nat.add_le_add_left h1 _) (Nat.add_lt_of_lt_sub' h2)) fun y hy pk qk=>?_
 rw [Yt hi] at pk qk
 have R:∀ m,j+1≤m->m<j+1+y->K b m≤K a i:=fun m h1 h2=>Int.le_of_lt (of_decide_eq_true (QeD (P:=fun m=>decide (K b m<K a i)=true) (pk (m - (j+1)) (by(first | lia | omega))) h1))
 have R':∀ m,j+1+y≤m->m<b.size->K a i≤K b m:=fun m h1 h2=>Int.not_lt.mp (of_decide_eq_false (QeD (P:=fun m=>decide (K b m<K a i)=false) (qk (m - (j+1)) (Nat.le_sub_of_add_le' h1) (Nat.sub_lt_sub_right (Nat.le_of_add_right_le h1) h2)) (Nat.le_of_add_right_le h1)))
 by_cases h0:y > 0
 ·refine Qs h0 ?_
  have hy':j+1+y≤b.size:=by(first | lia | omega)
  have M3:=M2.mid.manyB (k:=y) hy' fun m n h1 h2 h3 h4=>Int.le_trans (R m h1 h2) (T.sa i n h3 h4)
  by_cases e:j+1+y=b.size
  ·exact Qs (QY e) (wpS_pure ⟨al,.inl ⟨_,_,_,_,_,_,_,rfl,M3.endB e⟩⟩)
  exact Qu (Zw e) (QbK (n:=n) T al ⟨M3,M.hi,Nat.lt_of_le_of_ne hy' e,by rw [Array.size_append]; exact Nat.le_trans M2.hn (Nat.le_add_right _ _)⟩ R' hN)
 ·have e0:y=0:=by(first | lia | omega)
  subst e0
  exact Qu h0 (QbK T al M2 R' hN)
theorem QgK {ac bc:Nat} (T:Two a b) (hk:kindOf st=oneType') (al0:Alike st st2) (M:Am a b r i j n) (hN:N≤n+1) :
  wpS (model prog w) A E s (Qc2 a b r i j ac bc g) (QjZ st a b N N) st2:=by
 have hi:=Nat.lt_of_succ_lt M.hi
 have hj:=M.hj
 unfold Qc2
 refine wpS_bind (Qck fun st3 h3=>?_)
 have al:=h3 _ al0
 have k2:=al.1.trans hk
 refine wpS_bind (QR hj (wpS_bind ?_))
 refine Qah k2 (T.kb _ (Array.getElem_mem hj)) T.ka (Nat.le_of_eq (Nat.add_sub_cancel' (Nat.le_of_lt hi))) (Nat.sub_pos_of_lt hi) (fun x y h1 h2=>T.sa _ _ (Nat.add_le_add_left h1 _) (Nat.add_lt_of_lt_sub' h2)) fun y hy pk qk=>?_
 rw [Yt hj] at pk qk
 have R:∀ m,i≤m->m<i+y->K a m≤K b j:=fun m h1 h2=>of_decide_eq_true (QeD (P:=fun m=>decide (K a m≤K b j)=true) (pk (m - i) (Nat.sub_lt_left_of_lt_add h1 h2)) h1)
 have R':∀ m,i+y≤m->m<a.size->K b j≤K a m:=fun m h1 h2=>Int.le_of_lt (Int.not_le.mp (of_decide_eq_false (QeD (P:=fun m=>decide (K a m≤K b j)=false) (qk (m - i) (Nat.le_sub_of_add_le' h1) (Nat.sub_lt_sub_right (Nat.le_of_add_right_le h1) h2)) (Nat.le_of_add_right_le h1))))
 by_cases h0:y > 0
 ·refine Qs h0 ?_
  have hy':i+y≤a.size:=by(first | lia | omega)
  have M3:=M.mid.manyA (k:=y) hy' fun m n h1 h2 h3 h4=>Int.le_trans (R m h1 h2) (T.sb j n h3 h4)
  by_cases e:i+y+1=a.size
  ·exact Qs (QY e) (wpS_pure ⟨al,.inl ⟨_,_,_,_,_,_,_,rfl,M3.lastA e T.cl⟩⟩)
  refine Qu (Zw e) ?_
  by_cases e2:i+y=a.size
  ·exact Qs (QY e2) (wpS_pure ⟨al,.inl ⟨_,_,_,_,_,_,_,rfl,M3.endA e2⟩⟩)
  exact Qu (Zw e2) (QbL (n:=n) T al k2 ⟨M3,Nat.lt_of_le_of_ne (Nat.lt_of_le_of_ne hy' e2) e,hj,by rw [Array.size_append]; exact Nat.le_trans M.hn (Nat.le_add_right _ _)⟩ R' hN)
 ·have e0:y=0:=by(first | lia | omega)
  subst e0
  exact Qu h0 (QbL T al k2 M R' hN)
theorem Qfh {ac bc:Nat} (T:Two a b) (hk:kindOf st=oneType') (al:Alike st st2) (M:Am a b r i j n) :
  wpS (model prog w) A E s (QdJ a b r i j ac bc g) (Qj0 st a b n) st2:=by
 unfold QdJ
 refine wpS_bind (wpS_lift (wpAny_rule ⟨rfl,?_⟩))
 refine wpS_bind (wpS_forRange (I:=fun y c st'=>Alike st st'∧∃ r i j g ac bc,c=(none,r,i,j,g,ac,bc)∧Am a b r i j (n+y)) ?s2 ?f2 ⟨al,r,i,j,_,ac,bc,rfl,M⟩)
 case f2 =>
  rintro c st' ⟨_,r,i,j,g,ac,bc,rfl,M⟩
  exact(M.no (by(first | lia | omega))).elim
 case s2 =>
  rintro y c st' _ hy ⟨al,r,i,j,g,ac,bc,rfl,M⟩
  have fin:∀ g,wpS (model prog w) A E s (Qc2 a b r i j ac bc g) (fun r st'=>match r with
    | .done c=>wpS (model prog w) A E s (match c.fst with
      | some o=>pure (ForInStep.done (some o,c.snd.fst,c.snd.snd.fst,c.snd.snd.snd.fst,c.snd.snd.snd.snd.fst))
      | none=>do
       setG (c.snd.snd.snd.snd.fst+1)
       pure (ForInStep.yield (none,c.snd.fst,c.snd.snd.fst,c.snd.snd.snd.fst,c.snd.snd.snd.snd.fst+1)):StateT SortSt Sem (ForInStep StR)) (Qj0 st a b n) st'
    | .yield c=>Alike st st'∧∃ r i j g ac bc,c=(none,r,i,j,g,ac,bc)∧Am a b r i j (n+(y+1))) st':=fun g =>
   wpS_mono (QgK (N:=n+(y+1)) T hk al M (Nat.le_refl _)) fun q st4 hq=>by
    cases q with
    | yield c=>exact hq
    | done c =>
     obtain⟨al4,(⟨out,r,i,j,g,ac,bc,rfl,R⟩ | ⟨r,i,j,g,ac,bc,rfl,M⟩)⟩:=hq
     ·exact wpS_pure ⟨al4,_,_,_,_,_,rfl,R⟩
     ·exact wpS_bind (Qck fun st5 h5=>wpS_pure ⟨h5 _ al4,_,_,_,_,rfl,M.mid,M.hi,M.hj,Nat.le_of_add_right_le M.hn⟩)
  exact Qc1 (wpS_mono (fin _) fun q _ h=>by cases q <;> exact h) (wpS_mono (fin _) fun q _ h=>by cases q <;> exact h)
theorem Qfi (T:Two a b) (hk:kindOf st=oneType') (al:Alike st st2) (M:Am a b r i j n) :
  wpS (model prog w) A E s (QdK a b r i j g) (Qj0 st a b (n+1)) st2:=by
 unfold QdK
 refine wpS_bind (wpS_forRange (I:=fun y c st'=>st'=st2∧∃ r i j ac bc,c=(none,r,i,j,ac,bc)∧Am a b r i j (n+y)) ?s1 ?f1 ⟨rfl,r,i,j,0,0,rfl,M⟩)
 case f1 =>
  rintro c st' ⟨_,r,i,j,ac,bc,rfl,M⟩
  exact(M.no (by(first | lia | omega))).elim
 case s1 =>
  rintro y c st' _ hy ⟨rfl,r,i,j,ac,bc,rfl,M⟩
  refine wpS_mono (QhT (N:=n+(y+1)) T (al.1.trans hk) M (Nat.le_refl _)) fun q st4 hq=>?_
  cases q with
  | yield c=>exact hq
  | done c =>
   obtain⟨rfl,(⟨out,r,i,j,ac,bc,rfl,R⟩ | ⟨r,i,j,ac,bc,rfl,M⟩)⟩:=hq
   ·exact wpS_pure ⟨al,_,_,_,_,_,rfl,R⟩
   ·exact Qfh T hk al ⟨M.mid,M.hi,M.hj,Nat.le_trans (Nat.add_le_add_left (Nat.succ_le_succ (Nat.zero_le y)) n) M.hn⟩
theorem QlI {Q:Array Keyed->SortSt->Prop} (T:Two a b) (hk:kindOf st=oneType') (na:0<a.size) (nb:0<b.size)
  (h:∀ out st',Alike st st'->Mrg out a b->Q out st'):wpS (model prog w) A E s (mlo' a b) Q st:=by
 have M0:Mid a b #[] 0 0:=⟨⟨List.Perm.refl _,by simpa using QeC T.sa,by simpa using QeC T.sb⟩,Nat.zero_le _,Nat.zero_le _⟩
 have M1:Mid a b #[b[0]] 0 1:=M0.pushB nb fun m _ hm=>Int.le_trans T.c0 (T.sa 0 m (Nat.zero_le _) hm)
 rw [QlH]
 refine wpS_bind (wpS_lift (wpAny_rule ⟨rfl,wpS_bind (QR nb ?_)⟩))
 by_cases e1:1=b.size
 ·exact Qs (QY e1) (wpS_pure (h _ _ (.refl st) (M1.endB e1)))
 refine Qu (Zw e1) ?_
 by_cases e2:0+1=a.size
 ·exact Qs (QY e2) (wpS_pure (h _ _ (.refl st) (M1.lastA e2 T.cl)))
 refine Qu (Zw e2) (wpS_bind (wpS_get ?_))
 unfold QlG
 refine wpS_bind (wpS_forRange (I:=fun x c st'=>Alike st st'∧∃ r i j g,c=(none,r,i,j,g)∧Am a b r i j (x+1)) ?step ?fin ⟨.refl st,_,0,1,_,rfl,M1,by(first | lia | omega),by(first | lia | omega),Nat.le_refl 1⟩)
 case fin =>
  rintro c st' ⟨_,r,i,j,g,rfl,M⟩
  exact(M.no (by(first | lia | omega))).elim
 case step =>
  rintro x c st' _ hx ⟨al,r,i,j,g,rfl,M⟩
  refine wpS_mono (Qfi T hk al M) fun q st4 hq=>?_
  cases q with
  | yield c=>exact hq
  | done c =>
   obtain⟨al4,out,r,i,j,g,rfl,R⟩:=hq
   exact wpS_pure (h out _ al4 R)
end
end SO
end
section
namespace SO
open PySem PyProof PyProof.Rows
structure JH (o p q t:List Keyed):Prop where
 perm:(p++q++o).Perm t
 sp:Srt (p++o)
 sq:Srt (q++o)
theorem JH.swap {o p q t:List Keyed} (h:JH o p q t):JH o q p t :=
 ⟨(List.Perm.append_right o List.perm_append_comm).trans h.perm,h.sq,h.sp⟩
theorem JH.take {o x p q t:List Keyed} (h:JH o (p++x) q t) (c:∀ u∈q,∀ v∈x,nk u≤nk v):JH (x++o) p q t:=by
 refine⟨?_,by rw [← List.append_assoc]; exact h.sp,?_⟩
 ·refine List.Perm.trans ?_ h.perm
  rw [List.append_assoc p,List.append_assoc p,List.append_assoc p]
  refine List.Perm.append_left p ?_
  rw [← List.append_assoc,List.append_assoc x,← List.append_assoc]
  exact List.Perm.append_right o List.perm_append_comm
 have h1:=h.sp
 rw [List.append_assoc] at h1
 have h2:=List.pairwise_append.mp h.sq
 refine List.pairwise_append.mpr ⟨h2.1,(List.pairwise_append.mp h1).2.1,fun u hu v hv=>?_⟩
 rcases List.mem_append.mp hv with hv | hv
 ·exact c u hu v hv
 ·exact h2.2.2 u hu v hv
theorem QaL (a:Array Keyed) (i:Nat):(a.extract 0 i).toList=a.toList.take i:=by
 rw [Array.toList_extract,List.extract_eq_take_drop,List.drop_zero,Nat.sub_zero]
theorem JU (a:Array Keyed) (k i:Nat):(a.extract k i).toList=(a.toList.drop k).take (i - k):=by
 rw [Array.toList_extract,List.extract_eq_take_drop]
theorem QeE {a:Array Keyed} {i:Nat} {y:Keyed} (h:y∈a.toList.take i):∃ m,m<i∧m<a.size∧nk y=K a m:=by
 obtain⟨m,hm,e⟩:=List.getElem_of_mem h
 rw [List.length_take,Array.length_toList] at hm
 rw [List.getElem_take,Array.getElem_toList] at e
 exact⟨m,by(first | lia | omega),by(first | lia | omega),by rw [← e,Yt]⟩
theorem QbM {l:List Keyed} {k i:Nat} (h:k≤i):l.take i=l.take k++(l.drop k).take (i - k):=by
 rw [← List.take_add,show k+(i - k)=i by(first | lia | omega)]
theorem QgL {a:Array Keyed} {i:Nat} (h:i<a.size):a.toList.take (i+1)=a.toList.take i++[a[i]]:=by
 rw [List.take_succ_eq_append_getElem (by rw [Array.length_toList]; exact h),Array.getElem_toList]
structure MidH (a b r:Array Keyed) (i j:Nat):Prop where
 jl:JH r.toList.reverse (a.toList.take i) (b.toList.take j) (a.toList++b.toList)
 hi:i≤a.size
 hj:j≤b.size
theorem MidH.size {a b r:Array Keyed} {i j:Nat} (M:MidH a b r i j):r.size+i+j=a.size+b.size:=by
 have:=M.jl.perm.length_eq
 simp only [List.length_append,List.length_take,Array.length_toList,List.length_reverse] at this
 have:=M.hi
 have:=M.hj
 (first | lia | omega)
theorem MidH.pushA {a b r:Array Keyed} {i j:Nat} (M:MidH a b r (i+1) j) (h:i<a.size) (c:∀ m,m<j->m<b.size->K b m≤K a i):MidH a b (r.push a[i]) i j:=by
 refine⟨?_,Nat.le_of_lt h,M.hj⟩
 rw [Array.toList_push,List.reverse_append,List.reverse_singleton]
 refine JH.take (by have:=M.jl; rw [QgL h] at this; exact this) fun u hu v hv=>?_
 obtain⟨m,h1,h2,e⟩:=QeE hu
 rw [List.mem_singleton.mp hv,Yt h,e]
 exact c m h1 h2
theorem MidH.pushB {a b r:Array Keyed} {i j:Nat} (M:MidH a b r i (j+1)) (h:j<b.size) (c:∀ m,m<i->m<a.size->K a m≤K b j):MidH a b (r.push b[j]) i j:=by
 refine⟨?_,M.hi,Nat.le_of_lt h⟩
 rw [Array.toList_push,List.reverse_append,List.reverse_singleton]
 refine(JH.take (by have:=M.jl.swap; rw [QgL h] at this; exact this) fun u hu v hv=>?_).swap
 obtain⟨m,h1,h2,e⟩:=QeE hu
 rw [List.mem_singleton.mp hv,Yt h,e]
 exact c m h1 h2
theorem MidH.manyA {a b r:Array Keyed} {i j k:Nat} (M:MidH a b r i j) (h:k≤i) (c:∀ m n,k≤m->m<i->n<j->n<b.size->K b n≤K a m):MidH a b (r++(a.extract k i).reverse) k j:=by
 refine⟨?_,Nat.le_trans h M.hi,M.hj⟩
 rw [Array.toList_append,Array.toList_reverse,List.reverse_append,List.reverse_reverse,JU]
 refine JH.take (by have:=M.jl; rw [QbM h] at this; exact this) fun u hu v hv=>?_
 obtain⟨n,h4,h5,e2⟩:=QeE hu
 obtain⟨m,h1,h2,h3,e⟩:=Jk hv
 rw [e,e2]
 exact c m n h1 (by(first | lia | omega)) h4 h5
theorem MidH.manyB {a b r:Array Keyed} {i j k:Nat} (M:MidH a b r i j) (h:k≤j) (c:∀ m n,k≤m->m<j->n<i->n<a.size->K a n≤K b m):MidH a b (r++(b.extract k j).reverse) i k:=by
 refine⟨?_,M.hi,Nat.le_trans h M.hj⟩
 rw [Array.toList_append,Array.toList_reverse,List.reverse_append,List.reverse_reverse,JU]
 refine(JH.take (by have:=M.jl.swap; rw [QbM h] at this; exact this) fun u hu v hv=>?_).swap
 obtain⟨n,h4,h5,e2⟩:=QeE hu
 obtain⟨m,h1,h2,h3,e⟩:=Jk hv
 rw [e,e2]
 exact c m n h1 (by(first | lia | omega)) h4 h5
theorem MidH.endA {a b r:Array Keyed} {i j:Nat} (M:MidH a b r i j) (h:i=0):Mrg (a.extract 0 i++b.extract 0 j++r.reverse) a b:=by
 subst h
 have p:=M.jl.perm
 rw [List.take_zero,List.nil_append] at p
 rw [Mrg,Array.toList_append,Array.toList_append,QaL,QaL,List.take_zero,List.nil_append,Array.toList_reverse]
 exact⟨p,M.jl.sq⟩
theorem MidH.endB {a b r:Array Keyed} {i j:Nat} (M:MidH a b r i j) (h:j=0):Mrg (a.extract 0 i++b.extract 0 j++r.reverse) a b:=by
 subst h
 have p:=M.jl.perm
 rw [List.take_zero,List.append_nil] at p
 rw [Mrg,Array.toList_append,Array.toList_append,QaL,QaL,List.take_zero,List.append_nil,Array.toList_reverse]
 exact⟨p,M.jl.sp⟩
theorem MidH.firstB {a b r:Array Keyed} {i j:Nat} (M:MidH a b r i j) (h:j=1) (sa:SortedTo a a.size) (c:K b 0≤K a 0):Mrg (b.extract 0 j++a.extract 0 i++r.reverse) a b:=by
 subst h
 have N:=M.manyA (k:=0) (Nat.zero_le _) fun m n _ h2 h3 _=>by
  rw [show n=0 by(first | lia | omega)]
  exact Int.le_trans c (sa 0 m (by(first | lia | omega)) (by have:=M.hi; (first | lia | omega)))
 have:=N.endA rfl
 rw [Array.reverse_append,Array.reverse_reverse,← Array.append_assoc] at this
 rw [show a.extract 0 0 = #[] by simp,Array.empty_append] at this
 exact this
end SO
end
section
namespace SO
open PySem PyProof PyProof.Rows
noncomputable abbrev HiO:=Option (Array Keyed)×Nat×Nat×Array Keyed×Nat×Nat
noncomputable abbrev HiR:=Option (Array Keyed)×Nat×Nat×Array Keyed×Nat
noncomputable abbrev HiL:=Option (Array Keyed)×Nat×Nat×Array Keyed×Nat×Nat×Nat
noncomputable def Qj1 (a b:Array Keyed) (g i j:Nat) (r:Array Keyed) (ac bc:Nat):StateT SortSt Sem (ForInStep HiO):=do
 let z ← lt' (← elem' b (j - 1)) (← elem' a (i - 1))
 match z with
 | some y =>
  if y=true then do
   let r:=r.push (← elem' a (i - 1))
   if (i - 1 == 0)=true then pure (ForInStep.done (some (a.extract 0 (i - 1)++b.extract 0 j++r.reverse),i - 1,j,r,ac+1,0))
   else if ac+1≥g then pure (ForInStep.done (none,i - 1,j,r,ac+1,0)) else pure (ForInStep.yield (none,i - 1,j,r,ac+1,0))
  else do
   let r:=r.push (← elem' b (j - 1))
   if (j - 1 == 1)=true then pure (ForInStep.done (some (b.extract 0 (j - 1)++a.extract 0 i++r.reverse),i,j - 1,r,0,bc+1))
   else if bc+1≥g then pure (ForInStep.done (none,i,j - 1,r,0,bc+1)) else pure (ForInStep.yield (none,i,j - 1,r,0,bc+1))
 | _=>pure (ForInStep.done (some (a.extract 0 i++b.extract 0 j++r.reverse),i,j,r,ac,bc))
noncomputable def Qcl (a b:Array Keyed) (g k k2 i j:Nat) (r:Array Keyed):StateT SortSt Sem (ForInStep HiL):=do
 let r:=r.push (← elem' a (i - 1))
 if (i - 1 == 0)=true then pure (ForInStep.done (some (a.extract 0 (i - 1)++b.extract 0 j++r.reverse),i - 1,j,r,g,k,k2))
 else if (decide (k<7) && decide (k2<7))=true then pure (ForInStep.done (none,i - 1,j,r,g,k,k2))
 else pure (ForInStep.yield (none,i - 1,j,r,g,k,k2))
noncomputable def Qcm (a b:Array Keyed) (g k bc i j:Nat) (r:Array Keyed):StateT SortSt Sem (ForInStep HiL):=do
 let r:=r.push (← elem' b (j - 1))
 if (j - 1 == 1)=true then pure (ForInStep.done (some (b.extract 0 (j - 1)++a.extract 0 i++r.reverse),i,j - 1,r,g,k,bc)) else do
  let z ← gal' true (← elem' a (i - 1)) b 0 (j - 1) (j - 1 - 1)
  match z with
  | some y =>
   if j - 1 - y > 0 then
    if (y == 1)=true then pure (ForInStep.done (some (b.extract 0 y++a.extract 0 i++(r++(b.extract y (j - 1)).reverse).reverse),i,y,r++(b.extract y (j - 1)).reverse,g,k,j - 1 - y))
    else if (y == 0)=true then pure (ForInStep.done (some (a.extract 0 i++b.extract 0 y++(r++(b.extract y (j - 1)).reverse).reverse),i,y,r++(b.extract y (j - 1)).reverse,g,k,j - 1 - y))
    else Qcl a b g k (j - 1 - y) i y (r++(b.extract y (j - 1)).reverse)
   else Qcl a b g k (j - 1 - y) i (j - 1) r
  | _=>pure (ForInStep.done (some (a.extract 0 i++b.extract 0 (j - 1)++r.reverse),i,j - 1,r,g,k,bc))
noncomputable def Qc3 (a b:Array Keyed) (i j:Nat) (r:Array Keyed) (ac bc g:Nat):StateT SortSt Sem (ForInStep HiL):=do
 setG g
 let z ← gal' false (← elem' b (j - 1)) a 0 i (i - 1)
 match z with
 | some y =>
  if i - y > 0 then
   if (y == 0)=true then pure (ForInStep.done (some (a.extract 0 y++b.extract 0 j++(r++(a.extract y i).reverse).reverse),y,j,r++(a.extract y i).reverse,g,i - y,bc))
   else Qcm a b g (i - y) bc y j (r++(a.extract y i).reverse)
  else Qcm a b g (i - y) bc i j r
 | _=>pure (ForInStep.done (some (a.extract 0 i++b.extract 0 j++r.reverse),i,j,r,g,ac,bc))
noncomputable def QdL (a b:Array Keyed) (i j:Nat) (r:Array Keyed) (ac bc g:Nat):StateT SortSt Sem (ForInStep HiR):=do
 liftM (rule "list.sort.gallop")
 let c ← forIn [0:a.size+b.size] ((none,i,j,r,g+1,ac,bc):HiL) fun _ c =>
  if c.snd.snd.snd.snd.fst > 1 then Qc3 a b c.snd.fst c.snd.snd.fst c.snd.snd.snd.fst c.snd.snd.snd.snd.snd.fst c.snd.snd.snd.snd.snd.snd (c.snd.snd.snd.snd.fst - 1)
  else Qc3 a b c.snd.fst c.snd.snd.fst c.snd.snd.snd.fst c.snd.snd.snd.snd.snd.fst c.snd.snd.snd.snd.snd.snd c.snd.snd.snd.snd.fst
 match c.fst with
 | some o=>pure (ForInStep.done (some o,c.snd.fst,c.snd.snd.fst,c.snd.snd.snd.fst,c.snd.snd.snd.snd.fst))
 | none=>do
  setG (c.snd.snd.snd.snd.fst+1)
  pure (ForInStep.yield (none,c.snd.fst,c.snd.snd.fst,c.snd.snd.snd.fst,c.snd.snd.snd.snd.fst+1))
noncomputable def QdM (a b:Array Keyed) (i j:Nat) (r:Array Keyed) (g:Nat):StateT SortSt Sem (ForInStep HiR):=do
 let c ← forIn [0:a.size+b.size] ((none,i,j,r,0,0):HiO) fun _ c=>Qj1 a b g c.snd.fst c.snd.snd.fst c.snd.snd.snd.fst c.snd.snd.snd.snd.fst c.snd.snd.snd.snd.snd
 match c.fst with
 | some o=>pure (ForInStep.done (some o,c.snd.fst,c.snd.snd.fst,c.snd.snd.snd.fst,g))
 | none=>QdL a b c.snd.fst c.snd.snd.fst c.snd.snd.snd.fst c.snd.snd.snd.snd.fst c.snd.snd.snd.snd.snd g
noncomputable def QlJ (a b r:Array Keyed) (g:Nat):StateT SortSt Sem (Array Keyed):=do
 let c ← forIn [0:a.size+b.size] ((none,a.size - 1,b.size,r,g):HiR) fun _ c=>QdM a b c.snd.fst c.snd.snd.fst c.snd.snd.snd.fst c.snd.snd.snd.snd
 match c.fst with
 | some o=>pure o
 | none=>liftM (unsupported "internal:list.sort.merge-bound")
theorem QlK (a b:Array Keyed):mhi' a b=(do
 liftM (rule "list.sort.merge-hi")
 let x ← elem' a (a.size - 1)
 if (a.size - 1 == 0)=true then pure (a.extract 0 (a.size - 1)++b.extract 0 b.size++(#[x]:Array Keyed).reverse)
 else if (b.size == 1)=true then pure (b.extract 0 b.size++a.extract 0 (a.size - 1)++(#[x]:Array Keyed).reverse)
 else do
  let t ← get
  QlJ a b #[x] (gallopOf t)):=by
 kernel_rfl
end SO
end
section
namespace SO
open PySem PyProof PyProof.Rows
theorem MidH.popA {a b r:Array Keyed} {i j:Nat} (M:MidH a b r i j) (h0:0<i) (h:i - 1<a.size) (c:∀ m,m<j->m<b.size->K b m≤K a (i - 1)):MidH a b (r.push a[i - 1]) (i - 1) j:=by
 obtain⟨n,rfl⟩:∃ n,i=n+1:=⟨i - 1,(Nat.succ_pred_eq_of_pos h0).symm⟩
 exact M.pushA h c
theorem MidH.popB {a b r:Array Keyed} {i j:Nat} (M:MidH a b r i j) (h0:0<j) (h:j - 1<b.size) (c:∀ m,m<i->m<a.size->K a m≤K b (j - 1)):MidH a b (r.push b[j - 1]) i (j - 1):=by
 obtain⟨n,rfl⟩:∃ n,j=n+1:=⟨j - 1,(Nat.succ_pred_eq_of_pos h0).symm⟩
 exact M.pushB h c
structure AmH (a b r:Array Keyed) (i j n:Nat):Prop where
 mid:MidH a b r i j
 hi:0<i
 hj:1<j
 hn:n≤r.size
noncomputable def PoH (st:SortSt) (a b:Array Keyed) (n N:Nat):ForInStep HiO->SortSt->Prop
 | .done c,st'=>st'=st∧((∃ out i j r ac bc,c=(some out,i,j,r,ac,bc)∧Mrg out a b)∨∃ i j r ac bc,c=(none,i,j,r,ac,bc)∧AmH a b r i j n)
 | .yield c,st'=>st'=st∧∃ i j r ac bc,c=(none,i,j,r,ac,bc)∧AmH a b r i j N
noncomputable def PlH (st:SortSt) (a b:Array Keyed) (n N:Nat):ForInStep HiL->SortSt->Prop
 | .done c,st'=>Alike st st'∧((∃ out i j r g ac bc,c=(some out,i,j,r,g,ac,bc)∧Mrg out a b)∨∃ i j r g ac bc,c=(none,i,j,r,g,ac,bc)∧AmH a b r i j n)
 | .yield c,st'=>Alike st st'∧∃ i j r g ac bc,c=(none,i,j,r,g,ac,bc)∧AmH a b r i j N
noncomputable def PbH (st:SortSt) (a b:Array Keyed) (N:Nat):ForInStep HiR->SortSt->Prop
 | .done c,st'=>Alike st st'∧∃ out i j r g,c=(some out,i,j,r,g)∧Mrg out a b
 | .yield c,st'=>Alike st st'∧∃ i j r g,c=(none,i,j,r,g)∧AmH a b r i j N
section
variable {prog:Program} {w:World} {A:Around} {E:Value->Shared->Prop} {s:Shared}
variable {st st2:SortSt} {a b r:Array Keyed} {i j n N g:Nat}
theorem AmH.no (M:AmH a b r i j n) (h:a.size+b.size≤n):False:=by
 have:=M.mid.size
 have:=M.hi
 have:=M.hn
 (first | lia | omega)
theorem AmH.ia (M:AmH a b r i j n):i - 1<a.size:=Nat.lt_of_lt_of_le (Nat.pred_lt_of_lt M.hi) M.mid.hi
theorem AmH.jb (M:AmH a b r i j n):j - 1<b.size:=Nat.lt_of_lt_of_le (Nat.pred_lt_of_lt M.hj) M.mid.hj
theorem AmH.popA (M:AmH a b r i j n) (c:∀ m,m<j->m<b.size->K b m≤K a (i - 1)) (e:¬ i - 1=0) (hN:N≤n+1):AmH a b (r.push (a[i - 1]'M.ia)) (i - 1) j N :=
 ⟨M.mid.popA M.hi M.ia c,Nat.pos_of_ne_zero e,M.hj,by rw [Array.size_push]; exact Nat.le_trans hN (Nat.succ_le_succ M.hn)⟩
theorem AmH.popB (M:AmH a b r i j n) (c:∀ m,m<i->m<a.size->K a m≤K b (j - 1)) (e:¬ j - 1=1) (hN:N≤n+1):AmH a b (r.push (b[j - 1]'M.jb)) i (j - 1) N :=
 ⟨M.mid.popB (Nat.lt_of_succ_lt M.hj) M.jb c,M.hi,by have:=M.hj; (first | lia | omega),by rw [Array.size_push]; exact Nat.le_trans hN (Nat.succ_le_succ M.hn)⟩
theorem QhU {ac bc:Nat} (T:Two a b) (hk:kindOf st=oneType') (M:AmH a b r i j n) (hN:N≤n+1) :
  wpS (model prog w) A E s (Qj1 a b g i j r ac bc) (PoH st a b N N) st:=by
 have hi:=M.ia
 have hj:=M.jb
 unfold Qj1
 refine wpS_bind (QR hj (wpS_bind (QR hi (wpS_bind (QgI hk (T.kb _ (Array.getElem_mem hj)) (T.ka _ (Array.getElem_mem hi)) ?_)))))
 rw [Yt hj,Yt hi]
 by_cases hw:K b (j - 1)<K a (i - 1)
 ·refine Qs (decide_eq_true hw) (wpS_bind (QR hi ?_))
  have c:∀ m,m<j->m<b.size->K b m≤K a (i - 1):=fun m h1 _=>Int.le_trans (T.sb m (j - 1) (Nat.le_pred_of_lt h1) hj) (Int.le_of_lt hw)
  by_cases e:i - 1=0
  ·exact Qs (QY e) (wpS_pure ⟨rfl,.inl ⟨_,_,_,_,_,_,rfl,(M.mid.popA M.hi hi c).endA e⟩⟩)
  have M':=M.popA c e hN
  exact Qu (Zw e) (Qc1 (wpS_pure ⟨rfl,.inr ⟨_,_,_,_,_,rfl,M'⟩⟩) (wpS_pure ⟨rfl,_,_,_,_,_,rfl,M'⟩))
 ·refine Qu (Qa8 hw) (wpS_bind (QR hj ?_))
  have c:∀ m,m<i->m<a.size->K a m≤K b (j - 1):=fun m h1 _=>Int.le_trans (T.sa m (i - 1) (Nat.le_pred_of_lt h1) hi) (Int.not_lt.mp hw)
  by_cases e:j - 1=1
  ·exact Qs (QY e) (wpS_pure ⟨rfl,.inl ⟨_,_,_,_,_,_,rfl,(M.mid.popB (Nat.lt_of_succ_lt M.hj) hj c).firstB e T.sa T.c0⟩⟩)
  have M':=M.popB c e hN
  exact Qu (Zw e) (Qc1 (wpS_pure ⟨rfl,.inr ⟨_,_,_,_,_,rfl,M'⟩⟩) (wpS_pure ⟨rfl,_,_,_,_,_,rfl,M'⟩))
theorem QbN {k k2:Nat} (al:Alike st st2) (M:AmH a b r i j n) (c:∀ m,m<j->m<b.size->K b m≤K a (i - 1)) (hN:N≤n+1) :
  wpS (model prog w) A E s (Qcl a b g k k2 i j r) (PlH st a b N N) st2:=by
 unfold Qcl
 refine wpS_bind (QR M.ia ?_)
 by_cases e:i - 1=0
 ·exact Qs (QY e) (wpS_pure ⟨al,.inl ⟨_,_,_,_,_,_,_,rfl,(M.mid.popA M.hi M.ia c).endA e⟩⟩)
 have M':=M.popA c e hN
 exact Qu (Zw e) (Qc1 (wpS_pure ⟨al,.inr ⟨_,_,_,_,_,_,rfl,M'⟩⟩) (wpS_pure ⟨al,_,_,_,_,_,_,rfl,M'⟩))
theorem QlL {r x:Array Keyed} {n:Nat} (h:n≤r.size):n≤(r++x).size:=by
 rw [Array.size_append]; exact Nat.le_trans h (Nat.le_add_right _ _)
theorem QbO {k bc:Nat} (T:Two a b) (al:Alike st st2) (k2:kindOf st2=oneType') (M:AmH a b r i j n) (c:∀ m,m<i->m<a.size->K a m≤K b (j - 1)) (hN:N≤n+1) :
  wpS (model prog w) A E s (Qcm a b g k bc i j r) (PlH st a b N N) st2:=by
 have hi:=M.ia
 have hj:=M.jb
 unfold Qcm
 refine wpS_bind (QR hj ?_)
 by_cases e:j - 1=1
 ·exact Qs (QY e) (wpS_pure ⟨al,.inl ⟨_,_,_,_,_,_,_,rfl,(M.mid.popB (Nat.lt_of_succ_lt M.hj) hj c).firstB e T.sa T.c0⟩⟩)
 have M2:AmH a b (r.push b[j - 1]) i (j - 1) n:=M.popB c e (Nat.le_succ n)
 refine Qu (Zw e) (wpS_bind (QR hi (wpS_bind ?_)))
 refine Qah k2 (T.ka _ (Array.getElem_mem hi)) T.kb (by rw [Nat.zero_add]; exact Nat.le_of_lt hj) (Nat.pred_lt_of_lt (Nat.lt_of_succ_lt M2.hj)) (fun x y h1 h2=>T.sb _ _ (Nat.add_le_add_left h1 _) (by rw [Nat.zero_add]; exact Nat.lt_trans h2 hj)) fun y hy pk qk=>?_
 rw [Yt hi] at pk qk
 simp only [Nat.zero_add] at pk qk
 have R:∀ m,m<y->K b m≤K a (i - 1):=fun m h=>Int.le_of_lt (of_decide_eq_true (pk m h))
 have R':∀ m,y≤m->m<j - 1->K a (i - 1)≤K b m:=fun m h1 h2=>Int.not_lt.mp (of_decide_eq_false (qk m h1 h2))
 by_cases h0:j - 1 - y > 0
 ·refine Qs h0 ?_
  have M3:=M2.mid.manyB (k:=y) hy fun m n h1 h2 h3 h4=>Int.le_trans (T.sa n (i - 1) (Nat.le_pred_of_lt h3) hi) (R' m h1 h2)
  by_cases e:y=1
  ·exact Qs (QY e) (wpS_pure ⟨al,.inl ⟨_,_,_,_,_,_,_,rfl,M3.firstB e T.sa T.c0⟩⟩)
  refine Qu (Zw e) ?_
  by_cases e2:y=0
  ·exact Qs (QY e2) (wpS_pure ⟨al,.inl ⟨_,_,_,_,_,_,_,rfl,M3.endB e2⟩⟩)
  exact Qu (Zw e2) (QbN (n:=n) al ⟨M3,M.hi,by(first | lia | omega),QlL M2.hn⟩ (fun m h _=>R m h) hN)
 ·exact Qu h0 (QbN al M2 (fun m h _=>R m (Nat.lt_of_lt_of_le h (by(first | lia | omega)))) hN)
theorem QgM {ac bc:Nat} (T:Two a b) (hk:kindOf st=oneType') (al0:Alike st st2) (M:AmH a b r i j n) (hN:N≤n+1) :
  wpS (model prog w) A E s (Qc3 a b i j r ac bc g) (PlH st a b N N) st2:=by
 have hj:=M.jb
 unfold Qc3
 refine wpS_bind (Qck fun st3 h3=>?_)
 have al:=h3 _ al0
 have k2:=al.1.trans hk
 refine wpS_bind (QR hj (wpS_bind ?_))
 refine Qah k2 (T.kb _ (Array.getElem_mem hj)) T.ka (by rw [Nat.zero_add]; exact M.mid.hi) (Nat.pred_lt_of_lt M.hi) (fun x y h1 h2=>T.sa _ _ (Nat.add_le_add_left h1 _) (by rw [Nat.zero_add]; exact Nat.lt_of_lt_of_le h2 M.mid.hi)) fun y hy pk qk=>?_
 rw [Yt hj] at pk qk
 simp only [Nat.zero_add] at pk qk
 have R:∀ m,m<y->K a m≤K b (j - 1):=fun m h=>of_decide_eq_true (pk m h)
 have R':∀ m,y≤m->m<i->K b (j - 1)≤K a m:=fun m h1 h2=>Int.le_of_lt (Int.not_le.mp (of_decide_eq_false (qk m h1 h2)))
 by_cases h0:i - y > 0
 ·refine Qs h0 ?_
  have M3:=M.mid.manyA (k:=y) hy fun m n h1 h2 h3 h4=>Int.le_trans (T.sb n (j - 1) (Nat.le_pred_of_lt h3) hj) (R' m h1 h2)
  by_cases e2:y=0
  ·exact Qs (QY e2) (wpS_pure ⟨al,.inl ⟨_,_,_,_,_,_,_,rfl,M3.endA e2⟩⟩)
  exact Qu (Zw e2) (QbO (n:=n) T al k2 ⟨M3,Nat.pos_of_ne_zero e2,M.hj,QlL M.hn⟩ (fun m h _=>R m h) hN)
 ·exact Qu h0 (QbO T al k2 M (fun m h _=>R m (Nat.lt_of_lt_of_le h (by(first | lia | omega)))) hN)
theorem Qfj {ac bc:Nat} (T:Two a b) (hk:kindOf st=oneType') (al:Alike st st2) (M:AmH a b r i j n) :
  wpS (model prog w) A E s (QdL a b i j r ac bc g) (PbH st a b n) st2:=by
 unfold QdL
 refine wpS_bind (wpS_lift (wpAny_rule ⟨rfl,?_⟩))
 refine wpS_bind (wpS_forRange (I:=fun y c st'=>Alike st st'∧∃ i j r g ac bc,c=(none,i,j,r,g,ac,bc)∧AmH a b r i j (n+y)) ?s2 ?f2 ⟨al,i,j,r,_,ac,bc,rfl,M⟩)
 case f2 =>
  rintro c st' ⟨_,i,j,r,g,ac,bc,rfl,M⟩
  exact(M.no (by(first | lia | omega))).elim
 case s2 =>
  rintro y c st' _ hy ⟨al,i,j,r,g,ac,bc,rfl,M⟩
  have fin:∀ g,wpS (model prog w) A E s (Qc3 a b i j r ac bc g) (fun r st'=>match r with
    | .done c=>wpS (model prog w) A E s (match c.fst with
      | some o=>pure (ForInStep.done (some o,c.snd.fst,c.snd.snd.fst,c.snd.snd.snd.fst,c.snd.snd.snd.snd.fst))
      | none=>do
       setG (c.snd.snd.snd.snd.fst+1)
       pure (ForInStep.yield (none,c.snd.fst,c.snd.snd.fst,c.snd.snd.snd.fst,c.snd.snd.snd.snd.fst+1)):StateT SortSt Sem (ForInStep HiR)) (PbH st a b n) st'
    | .yield c=>Alike st st'∧∃ i j r g ac bc,c=(none,i,j,r,g,ac,bc)∧AmH a b r i j (n+(y+1))) st':=fun g =>
   wpS_mono (QgM (N:=n+(y+1)) T hk al M (Nat.le_refl _)) fun q st4 hq=>by
    cases q with
    | yield c=>exact hq
    | done c =>
     obtain⟨al4,(⟨out,i,j,r,g,ac,bc,rfl,R⟩ | ⟨i,j,r,g,ac,bc,rfl,M⟩)⟩:=hq
     ·exact wpS_pure ⟨al4,_,_,_,_,_,rfl,R⟩
     ·exact wpS_bind (Qck fun st5 h5=>wpS_pure ⟨h5 _ al4,_,_,_,_,rfl,M.mid,M.hi,M.hj,Nat.le_of_add_right_le M.hn⟩)
  exact Qc1 (wpS_mono (fin _) fun q _ h=>by cases q <;> exact h) (wpS_mono (fin _) fun q _ h=>by cases q <;> exact h)
theorem Qfk (T:Two a b) (hk:kindOf st=oneType') (al:Alike st st2) (M:AmH a b r i j n) :
  wpS (model prog w) A E s (QdM a b i j r g) (PbH st a b (n+1)) st2:=by
 unfold QdM
 refine wpS_bind (wpS_forRange (I:=fun y c st'=>st'=st2∧∃ i j r ac bc,c=(none,i,j,r,ac,bc)∧AmH a b r i j (n+y)) ?s1 ?f1 ⟨rfl,i,j,r,0,0,rfl,M⟩)
 case f1 =>
  rintro c st' ⟨_,i,j,r,ac,bc,rfl,M⟩
  exact(M.no (by(first | lia | omega))).elim
 case s1 =>
  rintro y c st' _ hy ⟨rfl,i,j,r,ac,bc,rfl,M⟩
  refine wpS_mono (QhU (N:=n+(y+1)) T (al.1.trans hk) M (Nat.le_refl _)) fun q st4 hq=>?_
  cases q with
  | yield c=>exact hq
  | done c =>
   obtain⟨rfl,(⟨out,i,j,r,ac,bc,rfl,R⟩ | ⟨i,j,r,ac,bc,rfl,M⟩)⟩:=hq
   ·exact wpS_pure ⟨al,_,_,_,_,_,rfl,R⟩
   ·exact Qfj T hk al ⟨M.mid,M.hi,M.hj,Nat.le_trans (Nat.add_le_add_left (Nat.succ_le_succ (Nat.zero_le y)) n) M.hn⟩
theorem QlM {Q:Array Keyed->SortSt->Prop} (T:Two a b) (hk:kindOf st=oneType') (na:0<a.size) (nb:0<b.size)
  (h:∀ out st',Alike st st'->Mrg out a b->Q out st'):wpS (model prog w) A E s (mhi' a b) Q st:=by
 have e:∀ x:Array Keyed,x.toList.take x.size=x.toList:=fun x=>List.take_of_length_le (by rw [Array.length_toList]; exact Nat.le_refl _)
 have M0:MidH a b #[] a.size b.size:=by
  refine⟨⟨?_,?_,?_⟩,Nat.le_refl _,Nat.le_refl _⟩
  ·rw [e,e]; simp
  ·rw [e]; simpa using QeC T.sa
  ·rw [e]; simpa using QeC T.sb
 have ha1:a.size - 1<a.size:=Nat.pred_lt_of_lt na
 have M1:MidH a b #[a[a.size - 1]] (a.size - 1) b.size:=M0.popA na ha1 fun m _ hm=>T.cl m hm
 rw [QlK]
 refine wpS_bind (wpS_lift (wpAny_rule ⟨rfl,wpS_bind (QR ha1 ?_)⟩))
 by_cases e1:a.size - 1=0
 ·exact Qs (QY e1) (wpS_pure (h _ _ (.refl st) (M1.endA e1)))
 refine Qu (Zw e1) ?_
 by_cases e2:b.size=1
 ·exact Qs (QY e2) (wpS_pure (h _ _ (.refl st) (M1.firstB e2 T.sa T.c0)))
 refine Qu (Zw e2) (wpS_bind (wpS_get ?_))
 unfold QlJ
 refine wpS_bind (wpS_forRange (I:=fun x c st'=>Alike st st'∧∃ i j r g,c=(none,i,j,r,g)∧AmH a b r i j (x+1)) ?step ?fin ⟨.refl st,_,_,_,_,rfl,M1,Nat.pos_of_ne_zero e1,by(first | lia | omega),Nat.le_refl 1⟩)
 case fin =>
  rintro c st' ⟨_,i,j,r,g,rfl,M⟩
  exact(M.no (by(first | lia | omega))).elim
 case step =>
  rintro x c st' _ hx ⟨al,i,j,r,g,rfl,M⟩
  refine wpS_mono (Qfk T hk al M) fun q st4 hq=>?_
  cases q with
  | yield c=>exact hq
  | done c =>
   obtain⟨al4,out,i,j,r,g,rfl,R⟩:=hq
   exact wpS_pure (h out _ al4 R)
end
end SO
end
section
namespace SO
open PySem PyProof PyProof.Rows
noncomputable def lay (xs:Array Keyed) (p:Nat) (l:List Keyed) (n:Nat):Array Keyed:=(l.zipIdx n).foldl (fun y (v,k)=>y.setIfInBounds (p+k) v) xs
theorem QlN (i:Nat):mergeAt' i=(do
 let z ← get
 let (some (u,m,pw),some (v,n,_)):=((pendingOf z)[i]?,(pendingOf z)[i+1]?) | unsupported "internal:list.sort.pending"
 set (setPending z (((pendingOf z).setIfInBounds i (u,m+n,pw)).eraseIdxIfInBounds (i+1)))
 let some k ← gal' false (← elem' (arrOf z) v) (arrOf z) u m 0 | return false
 if m - k == 0 then return true
 let some n ← gal' true (← elem' (arrOf z) (u+k+(m - k) - 1)) (arrOf z) v n (n - 1) | return false
 if n == 0 then return true
 let out ← if m - k≤n then mlo' ((arrOf z).extract (u+k) v) ((arrOf z).extract v (v+n)) else mhi' ((arrOf z).extract (u+k) v) ((arrOf z).extract v (v+n))
 modify fun z=>setArr z (lay (arrOf z) (u+k) out.toList 0)
 return (failedOf (← get)).isNone):=by rfl
theorem QeF (p:Nat):∀(l:List Keyed) (n:Nat) (xs:Array Keyed),p+n+l.length≤xs.size ->
  (lay xs p l n).toList=xs.toList.take (p+n)++(l++xs.toList.drop (p+n+l.length))
 | [],n,xs,_=>by
  show xs.toList=_
  rw [List.length_nil,Nat.add_zero,List.nil_append,List.take_append_drop]
 | v::l,n,xs,h=>by
  rw [List.length_cons] at h ⊢
  have ih:=QeF p l (n+1) (xs.setIfInBounds (p+n) v) (by rw [Array.size_setIfInBounds]; (first | lia | omega))
  have e:lay xs p (v::l) n=lay (xs.setIfInBounds (p+n) v) p l (n+1):=rfl
  rw [e,ih,Array.toList_setIfInBounds]
  have hl:p+n<xs.toList.length:=by rw [Array.length_toList]; (clear ih e; (first | lia | omega))
  rw [show p+(n+1)=p+n+1 by(clear h ih e hl; (first | lia | omega)),List.take_succ_eq_append_getElem (by rw [List.length_set]; exact hl),List.getElem_set_self,List.take_set_of_le (Nat.le_refl _),
   List.drop_set_of_lt (by(clear h ih e hl; (first | lia | omega))),List.append_assoc,show p+n+1+l.length=p+n+(l.length+1) by(clear h ih e hl; (first | lia | omega))]
  rfl
noncomputable def Kl (l:List Keyed) (i:Nat):Int:=match l[i]? with
 | some p=>nk p
 | none=>0
theorem K_l (xs:Array Keyed) (i:Nat):K xs i=Kl xs.toList i:=by
 unfold K Kl
 rw [Array.getElem?_toList]
 cases xs[i]? <;> rfl
theorem QlO {l:List Keyed} {i:Nat} (h:i<l.length):∃ x∈l,Kl l i=nk x:=⟨l[i],List.getElem_mem h,by unfold Kl; rw [List.getElem?_eq_getElem h]⟩
theorem QlP {l:List Keyed} (h:Srt l) {i j:Nat} (hij:i≤j) (hj:j<l.length):Kl l i≤Kl l j:=by
 unfold Kl
 rw [List.getElem?_eq_getElem hj,List.getElem?_eq_getElem (Nat.lt_of_le_of_lt hij hj)]
 by_cases e:i=j
 ·subst e; exact Int.le_refl _
 ·exact List.pairwise_iff_getElem.mp h i j _ hj (by(clear hj; (first | lia | omega)))
noncomputable def SOn (xs:Array Keyed) (lo hi:Nat):Prop:=∀ i j,lo≤i->i≤j->j<hi->K xs i≤K xs j
theorem QlQ {xs out:Array Keyed} {u p q v e:Nat} (hup:u≤p) (hpv:p<v) (hvq:v≤q) (hqe:q≤e) (he:e≤xs.size)
  (s1:SOn xs u v) (s2:SOn xs v e) (c1:∀ m,u≤m->m<p->K xs m≤K xs v) (c2:∀ m,q≤m->m<e->K xs (v - 1)≤K xs m)
  (hm:Mrg out (xs.extract p v) (xs.extract v q)) :
  (lay xs p out.toList 0).toList.Perm xs.toList∧SOn (lay xs p out.toList 0) u e∧∀ m,m<p∨q≤m->K (lay xs p out.toList 0) m=K xs m:=by
 have hlen:out.toList.length=q - p:=by
  have:=hm.1.length_eq
  rw [List.length_append,JU,JU,List.length_take,List.length_take,List.length_drop,List.length_drop,Array.length_toList (xs:=xs)] at this
  (clear hup hm; (first | lia | omega))
 have hL:=QeF p out.toList 0 xs (by(clear hup hm; (first | lia | omega)))
 rw [Nat.add_zero,hlen,show p+(q - p)=q by(clear hup hqe he hm hlen hL; (first | lia | omega))] at hL
 have hxy:xs.toList=xs.toList.take p++((xs.extract p v).toList++(xs.extract v q).toList++xs.toList.drop q):=by
  rw [JU,JU]
  conv=>lhs; rw [← List.take_append_drop p xs.toList]
  congr 1
  conv=>lhs; rw [← List.take_append_drop (q - p) (xs.toList.drop p),List.drop_drop,show p+(q - p)=q by(clear hup hqe he hm hlen hL; (first | lia | omega))]
  congr 1
  rw [show q - p=(v - p)+(q - v) by(clear hup hqe he hm hlen hL; (first | lia | omega)),List.take_add,List.drop_drop,show p+(v - p)=v by(clear hup hvq hqe he hm hlen hL; (first | lia | omega))]
 have ltp:(xs.toList.take p).length=p:=by rw [List.length_take,Array.length_toList]; (clear hup hm hlen hL hxy; (first | lia | omega))
 -- the cells
 have kIn:∀ m,p≤m->m<q->K (lay xs p out.toList 0) m=Kl out.toList (m - p):=fun m h1 h2=>by
  rw [K_l,hL]
  unfold Kl
  rw [List.getElem?_append_right (by(clear hup hpv hvq hqe he hm hlen hL hxy h2; (first | lia | omega))),ltp,List.getElem?_append_left (by(clear hup hqe he hm hL hxy; (first | lia | omega)))]
 have kOut:∀ m,m<p∨q≤m->K (lay xs p out.toList 0) m=K xs m:=fun m h=>by
  rw [K_l,hL,K_l]
  unfold Kl
  rcases h with h | h
  ·rw [List.getElem?_append_left (by(clear hup hpv hvq hqe he hm hlen hL hxy; (first | lia | omega))),List.getElem?_take_of_lt h]
  ·rw [List.getElem?_append_right (by(clear hup hqe he hm hlen hL hxy; (first | lia | omega))),ltp,List.getElem?_append_right (by(clear hup hqe he hm hL hxy; (first | lia | omega))),hlen,List.getElem?_drop,show q+(m - p - (q - p))=m by(clear hup hqe he hm hlen hL hxy; (first | lia | omega))]
 have kMem:∀ m,p≤m->m<q->∃ n,p≤n∧n<q∧K (lay xs p out.toList 0) m=K xs n:=fun m h1 h2=>by
  rw [kIn m h1 h2]
  obtain⟨x,hx,e⟩:=QlO (l:=out.toList) (i:=m - p) (by(clear hup hqe he hm hL hxy; (first | lia | omega)))
  rcases List.mem_append.mp (hm.1.mem_iff.mp hx) with hx | hx
  ·rw [JU] at hx
   obtain⟨n,h3,h4,_,e'⟩:=Jk hx
   exact⟨n,h3,by(clear hup hqe he hm hlen hL hxy h1 h2 e h3 e'; (first | lia | omega)),e.trans e'⟩
  ·rw [JU] at hx
   obtain⟨n,h3,h4,_,e'⟩:=Jk hx
   exact⟨n,by(clear hup hvq hqe he hm hlen hL hxy h1 h2 e h4 e'; (first | lia | omega)),by(clear hup hpv hqe he hm hlen hL hxy ltp h1 h2 e h3 e'; (first | lia | omega)),e.trans e'⟩
 refine⟨?_,?_,kOut⟩
 ·rw [hL]
  conv=>rhs; rw [hxy]
  exact List.Perm.append_left _ (List.Perm.append_right _ hm.1)
 ·intro i j hi hij hj
  by_cases a1:i<p
  ·rw [kOut i (.inl a1)]
   by_cases b1:j<p
   ·rw [kOut j (.inl b1)]; exact s1 i j hi hij (by(clear hup hvq hqe he hm hlen hL hxy hi hij hj a1; (first | lia | omega)))
   by_cases b2:j<q
   ·obtain⟨n,h3,h4,en⟩:=kMem j (by(clear hup hpv hvq hqe he hm hlen hL hxy hi hij hj a1 b2; (first | lia | omega))) b2
    rw [en]
    by_cases h5:n<v
    ·exact s1 i n hi (by(clear hup hpv hvq hqe he hm hlen hL hxy hi hij hj b1 b2 h4 en h5; (first | lia | omega))) h5
    ·exact Int.le_trans (c1 i hi a1) (s2 v n (Nat.le_refl _) (by(clear hup hpv hvq hqe he hm hlen hL hxy ltp hi hij hj a1 b1 b2 h3 h4 en; (first | lia | omega))) (by(clear hup hpv hvq he hm hlen hL hxy ltp hi hij hj a1 b1 b2 h3 en h5; (first | lia | omega))))
   ·rw [kOut j (.inr (by(clear hup hpv hvq hqe he hm hlen hL hxy ltp hi hij hj a1 b1; (first | lia | omega))))]
    exact Int.le_trans (c1 i hi a1) (s2 v j (Nat.le_refl _) (by(clear hup hpv hqe he hm hlen hL hxy ltp hi hij hj a1 b1; (first | lia | omega))) hj)
  by_cases a2:i<q
  ·by_cases b2:j<q
   ·rw [kIn i (by(clear hup hpv hvq hqe he hm hlen hL hxy hi hij hj a2 b2; (first | lia | omega))) a2,kIn j (by(clear hup hpv hvq hqe he hm hlen hL hxy hi hj a2 b2; (first | lia | omega))) b2]
    exact QlP hm.2 (by(clear hup hpv hvq hqe he hm hlen hL hxy hi hj a2 b2; (first | lia | omega))) (by(clear hup hqe he hm hL hxy hi hj a2; (first | lia | omega)))
   ·obtain⟨n,h3,h4,en⟩:=kMem i (by(clear hup hpv hvq hqe he hm hlen hL hxy hi hij hj a2 b2; (first | lia | omega))) a2
    rw [en,kOut j (.inr (by(clear hup hpv hvq hqe he hm hlen hL hxy ltp hi hij hj a1 a2 h3 h4 en; (first | lia | omega))))]
    by_cases h5:n<v
    ·exact Int.le_trans (s1 n (v - 1) (by(clear hpv hvq hqe he hm hlen hL hxy hi hij hj a1 a2 b2 h4 en h5; (first | lia | omega))) (by(clear hup hpv hvq hqe he hm hlen hL hxy ltp hi hij hj a1 a2 b2 h3 h4 en; (first | lia | omega))) (by(clear hup hpv hvq hqe he hm hlen hL hxy ltp hi hij hj a1 a2 b2 h3 h4 en; (first | lia | omega)))) (c2 j (by(clear hup hpv hvq hqe he hm hlen hL hxy ltp hi hij hj a1 a2 h3 h4 en h5; (first | lia | omega))) hj)
    ·exact s2 n j (by(clear hup hpv hvq hqe he hm hlen hL hxy ltp hi hij hj a1 a2 b2 h3 h4 en; (first | lia | omega))) (by(clear hup hpv hvq hqe he hm hlen hL hxy ltp hi hij hj a1 a2 h3 en h5; (first | lia | omega))) hj
  ·rw [kOut i (.inr (by(clear hup hpv hvq hqe he hm hlen hL hxy ltp hi hij hj a1; (first | lia | omega)))),kOut j (.inr (by(clear hup hpv hvq hqe he hm hlen hL hxy ltp hi hj a1; (first | lia | omega))))]
   exact s2 i j (by(clear hup hpv hqe he hm hlen hL hxy ltp hi hij hj a1; (first | lia | omega))) hij hj
end SO
end
section
namespace SO
open PySem PyProof PyProof.Rows
section
variable {prog:Program} {w:World} {A:Around} {E:Value->Shared->Prop} {s:Shared}
theorem QlR {σ:Type} {M:Model} {x:σ} {Q:PUnit->σ->Prop} {st:σ} (h:Q ⟨⟩ x):wpS M A E s (set x:StateT σ Sem PUnit) Q st:=by
 unfold wpS; rw [StateT.run_set]; exact wpAny_pure ⟨rfl,h⟩
theorem Qfl {xs:Array Keyed} {p q i:Nat} (hq:q≤xs.size) (hi:p+i<q):K (xs.extract p q) i=K xs (p+i) :=
 K_congr (by rw [Array.getElem?_extract,if_pos (by(first | lia | omega))])
theorem Qcn {xs:Array Keyed} {p q:Nat} (hq:q≤xs.size):(xs.extract p q).size=q - p:=by
 rw [Array.size_extract]; (first | lia | omega)
theorem Qi2 {xs:Array Keyed} (h:∀ x∈xs,KI x) (p q:Nat):∀ x∈xs.extract p q,KI x:=fun x hx=>by
 have h1:=Array.mem_toList_iff.mpr hx
 rw [JU] at h1
 exact h x (Array.mem_toList_iff.mp (List.mem_of_mem_drop (List.mem_of_mem_take h1)))
theorem QeG {xs:Array Keyed} {p q:Nat} (hq:q≤xs.size) (h:SOn xs p q):SortedTo (xs.extract p q) (xs.extract p q).size:=fun i j hij hj=>by
 rw [Qcn hq] at hj
 rw [Qfl hq (by(clear hq; (first | lia | omega))),Qfl hq (by(clear hq; (first | lia | omega)))]
 exact h _ _ (by(clear hq hij hj; (first | lia | omega))) (by(clear hq hj; (first | lia | omega))) (by(clear hq; (first | lia | omega)))
theorem QlS {st:SortSt} {i u m pw v n pw2:Nat} {Q:Bool->SortSt->Prop} (hk:kindOf st=oneType') (hf:failedOf st=none) (ki:∀ x∈arrOf st,KI x)
  (p1:(pendingOf st)[i]?=some (u,m,pw)) (p2:(pendingOf st)[i+1]?=some (v,n,pw2)) (hv:v=u+m) (hm:0<m) (hn:0<n) (he:v+n≤(arrOf st).size)
  (s1:SOn (arrOf st) u v) (s2:SOn (arrOf st) v (v+n))
  (h:∀ st',kindOf st'=oneType'->failedOf st'=none->pendingOf st'=((pendingOf st).setIfInBounds i (u,m+n,pw)).eraseIdxIfInBounds (i+1) ->
   (arrOf st').toList.Perm (arrOf st).toList->SOn (arrOf st') u (v+n)->(∀ k,k<u∨v+n≤k->K (arrOf st') k=K (arrOf st) k)->Q true st') :
  wpS (model prog w) A E s (mergeAt' i) Q st:=by
 subst hv
 rw [QlN]
 refine wpS_bind (wpS_get ?_)
 rw [p1,p2]
 dsimp only
 refine wpS_bind (QlR ?_)
 have hv':u+m<(arrOf st).size:=by(clear hk hf p1 hm p2; (first | lia | omega))
 refine wpS_bind (QR hv' (wpS_bind ?_))
 refine Qah hk (ki _ (Array.getElem_mem hv')) ki (by(clear hk hf p1 hm hn p2 he; (first | lia | omega))) hm (fun i j h1 h2=>s1 _ _ (by(clear hk hf p1 hm hn p2 he hv' h1 h2; (first | lia | omega))) (by(clear hk hf p1 hm hn p2 he hv' h2; (first | lia | omega))) (by(clear hk hf p1 hm hn p2 he hv' h1; (first | lia | omega)))) fun k hkm pk qk=>?_
 rw [Yt hv'] at pk qk
 simp only [LK_f] at pk qk
 dsimp only
 have P:∀ x,u≤x->x<u+k->K (arrOf st) x≤K (arrOf st) (u+m):=fun x h1 h2=>by
  have:=of_decide_eq_true (pk (x - u) (by(clear hk hf p1 hm hn p2 he hv' hkm; (first | lia | omega))))
  rwa [show u+(x - u)=x by(clear hk hf p1 hm hn p2 he hv' hkm h2 this; (first | lia | omega))] at this
 -- nothing to do: sorted as it stands
 have asis:(∀ x y,u≤x->x<u+m->u+m≤y->y<u+m+n->K (arrOf st) x≤K (arrOf st) y)->SOn (arrOf st) u (u+m+n):=fun c x y h1 h2 h3=>by
  by_cases hy:y<u+m
  ·exact s1 x y h1 h2 hy
  ·by_cases hx:x<u+m
   ·exact c x y h1 hx (by(clear hk hf p1 hm hn p2 he hv' hkm h1 h2 h3 hx; (first | lia | omega))) h3
   ·exact s2 x y (by(clear hk hf p1 hm hn p2 he hv' hkm h1 h2 h3 hy; (first | lia | omega))) h2 h3
 by_cases e1:m - k=0
 ·refine Qs (QY e1) ?_
  exact wpS_pure (h _ hk hf rfl (List.Perm.refl _) (asis fun x y h1 h2 h3 h4=>Int.le_trans (P x h1 (by(clear hk hf p1 hm hn p2 he hv' h1 h3 h4; (first | lia | omega)))) (s2 _ y (Nat.le_refl _) h3 h4)) fun _ _=>rfl)
 refine Qu (Zw e1) ?_
 have hl:u+k+(m - k) - 1<(arrOf st).size:=by(clear hk hf p1 hn p2 he e1; (first | lia | omega))
 refine wpS_bind (QR hl (wpS_bind ?_))
 refine Qah hk (ki _ (Array.getElem_mem hl)) ki (by(clear hk hf p1 hm hn p2 hv' hkm e1 hl; (first | lia | omega))) (by(clear hk hf p1 hm p2 he hv' hkm e1 hl; (first | lia | omega))) (fun i j h1 h2=>s2 _ _ (by(clear hk hf p1 hm hn p2 he hv' hkm e1 hl h1 h2; (first | lia | omega))) (by(clear hk hf p1 hm hn p2 he hv' hkm e1 hl h2; (first | lia | omega))) (by(clear hk hf p1 hm hn p2 he hv' hkm e1 hl h1; (first | lia | omega)))) fun n2 hn2 rk tk=>?_
 rw [Yt hl] at rk tk
 simp only [LK_t,show u+k+(m - k) - 1=u+m - 1 by(clear hk hf p1 hn p2 he hv' e1 hl hn2; (first | lia | omega))] at rk tk
 dsimp only
 have T:∀ y,u+m+n2≤y->y<u+m+n->K (arrOf st) (u+m - 1)≤K (arrOf st) y:=fun y h1 h2=>by
  have:=Int.not_lt.mp (of_decide_eq_false (tk (y - (u+m)) (by(clear hk hf p1 hm hn p2 he hv' hkm e1 hl hn2 h2; (first | lia | omega))) (by(clear hk hf p1 hm hn p2 he hv' hkm e1 hl hn2; (first | lia | omega)))))
  rwa [show u+m+(y - (u+m))=y by(clear hk hf p1 hm hn p2 he hv' hkm e1 hl hn2 h2 this; (first | lia | omega))] at this
 by_cases e2:n2=0
 ·refine Qs (QY e2) ?_
  exact wpS_pure (h _ hk hf rfl (List.Perm.refl _) (asis fun x y h1 h2 h3 h4=>Int.le_trans (s1 x (u+m - 1) h1 (by(clear hk hf p1 hm hn p2 he hv' hkm e1 hl hn2 e2 h1 h3 h4; (first | lia | omega))) (by(clear hk hf p1 hm hn p2 he hv' hkm e1 hl hn2 e2 h1 h3 h4; (first | lia | omega)))) (T y (by(clear hk hf p1 hm hn p2 he hv' hkm e1 hl hn2 h1 h2 h4; (first | lia | omega))) h4)) fun _ _=>rfl)
 refine Qu (Zw e2) ?_
 have z1:u+m≤(arrOf st).size:=by(clear hk hf p1 hm hn p2 he hkm e1 hl hn2 e2; (first | lia | omega))
 have z2:u+m+n2≤(arrOf st).size:=by(clear hk hf p1 hm hn p2 hv' hkm e1 hl e2 z1; (first | lia | omega))
 have S1:=Qcn (p:=u+k) z1
 have S2:=Qcn (p:=u+m) z2
 have hb:K ((arrOf st).extract (u+m) (u+m+n2)) 0≤K ((arrOf st).extract (u+k) (u+m)) 0:=by
  rw [Qfl z2 (by(clear hk hf p1 hm hn p2 he hv' e1 hl hn2 z1 z2 S1 S2; (first | lia | omega))),Qfl z1 (by(clear hk hf p1 hn p2 he hv' hl hn2 z1 z2 S1; (first | lia | omega)))]
  exact Int.le_of_lt (Int.not_le.mp (of_decide_eq_false (qk k (Nat.le_refl _) (by(clear hk hf p1 hn p2 he hv' hl hn2 z1 z2 S1; (first | lia | omega))))))
 have hc:∀ x,x<((arrOf st).extract (u+m) (u+m+n2)).size->K ((arrOf st).extract (u+m) (u+m+n2)) x≤K ((arrOf st).extract (u+k) (u+m)) (((arrOf st).extract (u+k) (u+m)).size - 1):=fun x hx=>by
  rw [S2] at hx
  rw [S1,Qfl z2 (by(clear hk hf p1 hm hn p2 he hv' hkm e1 hl hn2 e2 z1 z2 S1 S2 hb; (first | lia | omega))),Qfl z1 (by(clear hk hf p1 hn p2 he hv' hl hn2 z1 z2 S1 hb hx; (first | lia | omega))),show u+k+(u+m - (u+k) - 1)=u+m - 1 by(clear hk hf p1 hn p2 he hv' hl hn2 z1 z2 S1 hb hx; (first | lia | omega))]
  exact Int.le_of_lt (of_decide_eq_true (rk x (by(clear hk hf p1 hm hn p2 he hv' hkm e1 hl hn2 e2 z1 z2 S1 S2 hb; (first | lia | omega)))))
 have done:∀ out st',Alike (setPending st (((pendingOf st).setIfInBounds i (u,m+n,pw)).eraseIdxIfInBounds (i+1))) st'->Mrg out ((arrOf st).extract (u+k) (u+m)) ((arrOf st).extract (u+m) (u+m+n2)) ->
   wpS (model prog w) A E s (do
    modify fun z=>setArr z (lay (arrOf z) (u+k) out.toList 0)
    return (failedOf (← get)).isNone) Q st':=by
  intro out st' al hM
  refine wpS_bind (wpS_modify (wpS_bind (wpS_get ?_)))
  have ea:arrOf st'=arrOf st:=al.2.1
  have ef:failedOf st'=none:=al.2.2.2.trans hf
  have L:=QlQ (xs:=arrOf st) (out:=out) (u:=u) (p:=u+k) (q:=u+m+n2) (v:=u+m) (e:=u+m+n) (by(clear hk hf p1 hm hn p2 he hv' hkm e1 hl hn2 e2 z1 z2 S1 S2 hb hM ea ef; (first | lia | omega))) (by(clear hk hf p1 hn p2 he hv' hl hn2 z1 z2 S1 hb hM ea ef; (first | lia | omega))) (by(clear hk hf p1 hm hn p2 he hv' hkm e1 hl hn2 e2 z1 z2 S1 S2 hb hM ea ef; (first | lia | omega))) (by(clear hk hf p1 hm hn p2 he hv' hkm e1 hl e2 z1 z2 S1 S2 hb hM ea ef; (first | lia | omega))) he s1 s2 P T hM
  rw [← ea] at L
  show wpS _ _ _ _ (pure (failedOf st').isNone) _ _
  rw [ef]
  exact wpS_pure (h _ (al.1.trans hk) ef al.2.2.1 (by rw [← ea]; exact L.1) L.2.1 fun x hx=>by rw [← ea]; exact L.2.2 x (by(clear hk hf p1 hm hn p2 he hv' hkm e1 hl e2 z1 z2 S1 S2 hb hM ea ef L; (first | lia | omega))))
 have T2:Two ((arrOf st).extract (u+k) (u+m)) ((arrOf st).extract (u+m) (u+m+n2)) :=
  ⟨Qi2 ki _ _,Qi2 ki _ _,QeG z1 fun x y h1 h2 h3=>s1 x y (Nat.le_of_add_right_le h1) h2 h3,QeG z2 fun x y h1 h2 h3=>s2 x y h1 h2 (Nat.lt_of_lt_of_le h3 (Nat.add_le_add_left hn2 _)),hb,hc⟩
 have d1:0<((arrOf st).extract (u+k) (u+m)).size:=by(clear hk hf p1 hn p2 he hv' hl hn2 z1 z2 hb; (first | lia | omega))
 have d2:0<((arrOf st).extract (u+m) (u+m+n2)).size:=by(clear hk hf p1 hm hn p2 he hv' e1 hl hn2 z1 z2 S1 hb d1; (first | lia | omega))
 by_cases e3:m - k≤n2
 ·exact Qs e3 (wpS_bind <| QlI (st:=setPending st (((pendingOf st).setIfInBounds i (u,m+n,pw)).eraseIdxIfInBounds (i+1))) T2 hk d1 d2 done)
 ·exact Qu e3 (wpS_bind <| QlM (st:=setPending st (((pendingOf st).setIfInBounds i (u,m+n,pw)).eraseIdxIfInBounds (i+1))) T2 hk d1 d2 done)
end
end SO
end
section
namespace SO
open PySem PyProof PyProof.Rows
structure Chg (st st':SortSt) (lo hi:Nat):Prop where
 kind:kindOf st'=kindOf st
 failed:failedOf st'=failedOf st
 pend:pendingOf st'=pendingOf st
 perm:(arrOf st').toList.Perm (arrOf st).toList
 out:∀ k,k<lo∨hi≤k->K (arrOf st') k=K (arrOf st) k
theorem Chg.refl (st:SortSt) (lo hi:Nat):Chg st st lo hi:=⟨rfl,rfl,rfl,List.Perm.refl _,fun _ _=>rfl⟩
theorem Chg.trans {st st' st'':SortSt} {lo hi:Nat} (a:Chg st st' lo hi) (b:Chg st' st'' lo hi):Chg st st'' lo hi :=
 ⟨b.kind.trans a.kind,b.failed.trans a.failed,b.pend.trans a.pend,b.perm.trans a.perm,fun k h=>(b.out k h).trans (a.out k h)⟩
theorem Chg.size {st st':SortSt} {lo hi:Nat} (a:Chg st st' lo hi):(arrOf st').size=(arrOf st).size:=by
 have:=a.perm.length_eq
 rwa [Array.length_toList,Array.length_toList] at this
theorem Chg.ki {st st':SortSt} {lo hi:Nat} (a:Chg st st' lo hi) (h:∀ x∈arrOf st,KI x):∀ x∈arrOf st',KI x :=
 fun x hx=>h x (Array.mem_toList_iff.mp (a.perm.mem_iff.mp (Array.mem_toList_iff.mpr hx)))
theorem Chg.wide {st st':SortSt} {lo hi lo' hi':Nat} (a:Chg st st' lo hi) (h1:lo'≤lo) (h2:hi≤hi'):Chg st st' lo' hi' :=
 ⟨a.kind,a.failed,a.pend,a.perm,fun k h=>a.out k (by(first | lia | omega))⟩
noncomputable def NOn (xs:Array Keyed) (lo hi:Nat):Prop:=∀ i j,lo≤i->i≤j->j<hi->K xs j≤K xs i
theorem Jl {st:SortSt} {i j:Nat} (hj:j≤(arrOf st).size):Chg st (setArr st (mirror (arrOf st) i j ((j - i) / 2))) i j :=
 ⟨rfl,rfl,rfl,Array.perm_iff_toList_perm.mp (mirror_perm _ _ _ _),fun k h=>by
  show K (mirror _ _ _ _) k=_
  rw [K_mirror hj,if_neg (by(clear hj; (first | lia | omega)))]⟩
section
variable {prog:Program} {w:World} {A:Around} {E:Value->Shared->Prop} {s:Shared}
theorem Qa9 {st:SortSt} {i j:Nat} {Q:Option Bool->SortSt->Prop} (hk:kindOf st=oneType') (ki:∀ x∈arrOf st,KI x) (hi:i<(arrOf st).size) (hj:j<(arrOf st).size)
  (h:Q (some (decide (K (arrOf st) i<K (arrOf st) j))) st):wpS (model prog w) A E s (ltAt' i j) Q st:=by
 rw [ltAt'_eq]
 refine wpS_bind (wpS_get ?_)
 refine wpS_bind (QR hi (wpS_bind (QR hj (QgI hk (ki _ (Array.getElem_mem hi)) (ki _ (Array.getElem_mem hj)) ?_))))
 rw [Yt hi,Yt hj]
 exact h
theorem QmD (lo n ok:Nat):binarySort' lo n ok=(do
 for k in [max ok 1:n] do
  let mut l:=0
  let mut r:=k
  for _ in [0:k] do
   if l≥r then break
   let some y ← ltAt' (lo+k) (lo+(l+r) / 2) | return false
   if y then r:=(l+r) / 2 else l:=(l+r) / 2+1
  moveDown' (lo+k) (lo+l)
 return true):=by rfl
theorem QmE {st:SortSt} {lo n ok:Nat} {Q:Bool->SortSt->Prop} (hk:kindOf st=oneType') (ki:∀ x∈arrOf st,KI x) (hn:lo+n≤(arrOf st).size) (hok:ok≤n)
  (so:SOn (arrOf st) lo (lo+ok)) (h:∀ st',Chg st st' lo (lo+n)->SOn (arrOf st') lo (lo+n)->Q true st'):wpS (model prog w) A E s (binarySort' lo n ok) Q st:=by
 rw [QmD]
 refine wpS_bind (wpS_mono (wpS_forRange (I:=fun k c st'=>c=(none,())∧Chg st st' lo (lo+n)∧SOn (arrOf st') lo (lo+min k n))
  (Q:=fun c st'=>c=(none,())∧Chg st st' lo (lo+n)∧SOn (arrOf st') lo (lo+n)) ?step ?fin ⟨rfl,.refl _ _ _,?init⟩) ?post)
 case post =>
  rintro c st' ⟨rfl,c',s'⟩
  exact wpS_pure (h st' c' s')
 case init =>
  intro i j h1 h2 h3
  by_cases e:i=j
  ·subst e; exact Int.le_refl _
  ·exact so i j h1 h2 (by(clear hk hn; (first | lia | omega)))
 case fin =>
  rintro c st' ⟨rfl,c',s'⟩
  exact⟨rfl,c',by rwa [show min (max (max ok 1) n) n=n by(clear hk hn hok; (first | lia | omega))] at s'⟩
 case step =>
  rintro k c st' hak hkn ⟨rfl,C,S⟩
  rw [show min k n=k by(clear hk hn hok hak; (first | lia | omega))] at S
  have hz:lo+k<(arrOf st').size:=by rw [C.size]; (clear hk hok hak; (first | lia | omega))
  refine wpS_bind (wpS_mono (wpS_forRange (I:=fun x c st''=>st''=st'∧∃ l r,c=(none,l,r)∧l≤r∧r≤k∧r - l≤k - x ∧
    (∀ i,i<l->K (arrOf st') (lo+i)≤K (arrOf st') (lo+k))∧(∀ i,r≤i->i<k->K (arrOf st') (lo+k)<K (arrOf st') (lo+i)))
   (Q:=fun c st''=>st''=st'∧∃ l r,c=(none,l,r)∧l≤k ∧
    (∀ i,i<l->K (arrOf st') (lo+i)≤K (arrOf st') (lo+k))∧(∀ i,l≤i->i<k->K (arrOf st') (lo+k)<K (arrOf st') (lo+i))) ?s1 ?f1
    ⟨rfl,0,k,rfl,by(clear hk hn hok hak hkn hz; (first | lia | omega)),by(clear hk hn hok hak hkn hz; (first | lia | omega)),by(clear hk hn hok hak hkn hz; (first | lia | omega)),fun i hi=>by(clear hk hn hok hak hkn hz; (first | lia | omega)),fun i h1 h2=>by(clear hk hn hok hak hkn hz; (first | lia | omega))⟩) ?p1)
  case f1 =>
   rintro c st'' ⟨rfl,l,r,rfl,a1,a2,a3,a4,a5⟩
   have e:l=r:=by(clear hk hn hok hak hkn hz a2; (first | lia | omega))
   subst e
   exact⟨rfl,l,l,rfl,a2,a4,a5⟩
  case s1 =>
   rintro x c st'' _ hx ⟨rfl,l,r,rfl,a1,a2,a3,a4,a5⟩
   dsimp only
   by_cases hge:l≥r
   ·refine Qs hge ?_
    have e:l=r:=by(clear hk hn hok hak hkn hx hz a2 a3; (first | lia | omega))
    subst e
    exact wpS_pure ⟨rfl,l,l,rfl,a2,a4,a5⟩
   ·refine Qu hge ?_
    refine wpS_bind (Qa9 (C.kind.trans hk) (C.ki ki) hz (by(clear hk hn hok hak hkn hx a1 a3; (first | lia | omega))) ?_)
    dsimp only
    by_cases hl:K (arrOf st'') (lo+k)<K (arrOf st'') (lo+(l+r) / 2)
    ·refine Qs (decide_eq_true hl) ?_
     exact wpS_pure ⟨rfl,l,(l+r) / 2,rfl,by(clear hk hn hok hak hkn hx hz a1 a2 a3 hl; (first | lia | omega)),by(clear hk hn hok hak hkn hx hz a1 a3 hl; (first | lia | omega)),by(clear hk hn hok hak hkn hz a1 a2 hl; (first | lia | omega)),a4,fun i h1 h2=>Int.lt_of_lt_of_le hl (S _ _ (by(clear hk hn hok hak hkn hx hz a1 a2 a3 hl h1 h2; (first | lia | omega))) (by(clear hk hn hok hak hkn hx hz a1 a2 a3 hge hl h2; (first | lia | omega))) (by(clear hk hn hok hak hkn hx hz a1 a2 a3 hge hl h1; (first | lia | omega))))⟩
    ·refine Qu (Qa8 hl) ?_
     exact wpS_pure ⟨rfl,(l+r) / 2+1,r,rfl,by(clear hk hn hok hak hkn hx hz a1 a2 a3 hl; (first | lia | omega)),by(clear hk hn hok hak hkn hx hz a1 a3 hge hl; (first | lia | omega)),by(clear hk hn hok hak hkn hz a1 a2 hl; (first | lia | omega)),fun i h1=>Int.le_trans (S _ (lo+(l+r) / 2) (by(clear hk hn hok hak hkn hx hz a1 a2 a3 hge hl h1; (first | lia | omega))) (by(clear hk hn hok hak hkn hx hz a1 a2 a3 hge hl; (first | lia | omega))) (by(clear hk hn hok hak hkn hx hz a1 a3 hl h1; (first | lia | omega)))) (Int.not_lt.mp hl),a5⟩
  case p1 =>
   rintro c st'' ⟨rfl,l,r,rfl,hl,a4,a5⟩
   dsimp only
   rw [moveDown'_eq]
   have kb:=fun m=>K_bubble (xs:=arrOf st'') (src:=lo+k) (d:=lo+k - (lo+l)) hz (by(clear hk hn hok hak hkn hz; (first | lia | omega))) m
   rw [show lo+k - (lo+k - (lo+l))=lo+l by(clear hk hn hok hak hkn hz; (first | lia | omega))] at kb
   refine wpS_bind (wpS_modify (wpS_pure ⟨rfl,C.trans ⟨rfl,rfl,rfl,Array.perm_iff_toList_perm.mp (bubble_perm _ _ _),fun m hm=>?_⟩,?_⟩))
   ·show K (bubble _ _ _) m=_
    rw [kb,if_neg (by(clear hk hn hok hak hz; (first | lia | omega))),if_neg (by(clear hk hn hok hak hz hl; (first | lia | omega)))]
   ·rw [show min (k+1) n=k+1 by(clear hk hn hok hak hz hl; (first | lia | omega))]
    intro i j h1 h2 h3
    show K (bubble _ _ _) i≤K (bubble _ _ _) j
    have lo4:∀ m,lo≤m->m<lo+l->K (arrOf st'') m≤K (arrOf st'') (lo+k):=fun m q1 q2=>by
     have:=a4 (m - lo) (by(clear hk hn hok hak hkn hz hl h1 h2 h3; (first | lia | omega)))
     rwa [show lo+(m - lo)=m by(clear hk hn hok hak hkn hz hl h1 h2 h3 q2 this; (first | lia | omega))] at this
    have hi5:∀ m,lo+l≤m->m<lo+k->K (arrOf st'') (lo+k)≤K (arrOf st'') m:=fun m q1 q2=>by
     have:=a5 (m - lo) (by(clear hk hn hok hak hkn hz hl h1 h2 h3 q2; (first | lia | omega))) (by(clear hk hn hok hak hkn hz hl h1 h2 h3; (first | lia | omega)))
     rw [show lo+(m - lo)=m by(clear hk hn hok hak hkn hz hl h1 h2 h3 q2 this; (first | lia | omega))] at this
     exact Int.le_of_lt this
    rw [kb,kb]
    by_cases i1:i=lo+l
    ·rw [if_pos i1]
     by_cases j1:j=lo+l
     ·rw [if_pos j1]; exact Int.le_refl _
     ·rw [if_neg j1,if_pos (by(clear hk hn hok hak hkn hz hl h1; (first | lia | omega)))]; exact hi5 _ (by(clear hk hn hok hak hkn hz hl h1 h3; (first | lia | omega))) (by(clear hk hn hok hak hkn hz hl h1; (first | lia | omega)))
    ·rw [if_neg i1]
     by_cases i2:lo+l<i∧i≤lo+k
     ·rw [if_pos i2,if_neg (by(clear hk hn hok hak hkn hz hl h1 h3 i1; (first | lia | omega))),if_pos (by(clear hk hn hok hak hkn hz hl h1 i1; (first | lia | omega)))]
      exact S _ _ (by(clear hk hn hok hak hkn hz hl h2 h3 i1; (first | lia | omega))) (by(clear hk hn hok hak hkn hz hl h1 h3 i1; (first | lia | omega))) (by(clear hk hn hok hak hkn hz hl h1 i1; (first | lia | omega)))
     ·rw [if_neg i2]
      by_cases j1:j=lo+l
      ·rw [if_pos j1]; exact lo4 _ h1 (by(clear hk hn hok hak hkn hz hl h1; (first | lia | omega)))
      ·rw [if_neg j1]
       by_cases j2:lo+l<j∧j≤lo+k
       ·rw [if_pos j2]; exact S _ _ h1 (by(clear hk hn hok hak hkn hz hl h1 i1; (first | lia | omega))) (by(clear hk hn hok hak hkn hz hl h1 h2 i1 i2 j1; (first | lia | omega)))
       ·rw [if_neg j2]; exact S _ _ h1 h2 (by(clear hk hn hok hak hkn hz h1 h2 i1 i2; (first | lia | omega)))
end
end SO
end
section
namespace SO
open PySem PyProof PyProof.Rows
noncomputable def upL (lo b nr:Nat):StateT SortSt Sem (Option (Option Nat)×Nat) :=
 forIn [b:nr] ((none,b):Option (Option Nat)×Nat) fun _ c=>do
  let z ← ltAt' (lo+c.snd) (lo+c.snd - 1)
  match z with
  | some y=>if y=true then pure (ForInStep.done (none,c.snd)) else pure (ForInStep.yield (none,c.snd+1))
  | _=>pure (ForInStep.done (some none,c.snd))
noncomputable def endP (lo n nr:Nat):StateT SortSt Sem (Option Nat):=do
 reverseSlice' lo (lo+n)
 let c ← upL lo n nr
 match c.fst with
 | some r=>pure r
 | none=>pure (some c.snd)
noncomputable def dnL (lo n nr:Nat):StateT SortSt Sem (Option (Option Nat)×Nat×Nat) :=
 forIn [n:nr] ((none,n,0):Option (Option Nat)×Nat×Nat) fun _ c=>do
  let z ← ltAt' (lo+c.snd.fst) (lo+c.snd.fst - 1)
  match z with
  | some y =>
   if y=true then
    if c.snd.snd > 0 then do
     reverseSlice' (lo+c.snd.fst - (c.snd.snd+1)) (lo+c.snd.fst)
     pure (ForInStep.yield (none,c.snd.fst+1,0))
    else pure (ForInStep.yield (none,c.snd.fst+1,0))
   else do
    let z ← ltAt' (lo+c.snd.fst - 1) (lo+c.snd.fst)
    match z with
    | some g=>if g=true then pure (ForInStep.done (none,c.snd.fst,c.snd.snd)) else pure (ForInStep.yield (none,c.snd.fst+1,c.snd.snd+1))
    | _=>pure (ForInStep.done (some none,c.snd.fst,c.snd.snd))
  | _=>pure (ForInStep.done (some none,c.snd.fst,c.snd.snd))
noncomputable def dnP (lo n nr:Nat):StateT SortSt Sem (Option Nat):=do
 liftM (rule "list.sort.descending-run")
 let c ← dnL lo (n+1) nr
 match c.fst with
 | some r=>pure r
 | none =>
  if c.snd.snd > 0 then do
   reverseSlice' (lo+c.snd.fst - (c.snd.snd+1)) (lo+c.snd.fst)
   endP lo c.snd.fst nr
  else endP lo c.snd.fst nr
theorem QmF (lo nr:Nat):countRun' lo nr=(do
  let c ← upL lo 1 nr
  match c.fst with
  | some r=>pure r
  | none =>
   if (c.snd == nr)=true then pure (some c.snd)
   else if c.snd > 1 then do
    let z ← ltAt' lo (lo+c.snd - 1)
    match z with
    | some y=>if y=true then pure (some c.snd) else do
      reverseSlice' lo (lo+c.snd)
      dnP lo c.snd nr
    | _=>pure none
   else dnP lo c.snd nr):=by
 rw [countRun'_eq]
 dsimp only
 unfold dnP endP dnL upL
 congr 1
 funext c
 obtain⟨r,n⟩:=c
 cases r with
 | some r=>rfl
 | none =>
  dsimp only
  split
  ·rfl
  ·split
   ·congr 1
    funext z
    cases z with
    | none=>rfl
    | some y =>
     dsimp only
     split
     ·rfl
     ·congr 1
      funext _
      congr 1; funext _; congr 1; funext c2; obtain⟨r2,n2,q2⟩:=c2; cases r2 with
      | some r2=>rfl
      | none=>(dsimp only; split; (congr 1; funext _; (congr 1; funext _; congr 1; funext c3; obtain⟨r3,n3⟩:=c3; cases r3 <;> rfl)); (congr 1; funext _; congr 1; funext c3; obtain⟨r3,n3⟩:=c3; cases r3 <;> rfl))
   ·congr 1; funext _; congr 1; funext c2; obtain⟨r2,n2,q2⟩:=c2; cases r2 with
    | some r2=>rfl
    | none=>(dsimp only; split; (congr 1; funext _; (congr 1; funext _; congr 1; funext c3; obtain⟨r3,n3⟩:=c3; cases r3 <;> rfl)); (congr 1; funext _; congr 1; funext c3; obtain⟨r3,n3⟩:=c3; cases r3 <;> rfl))
end SO
end
section
namespace SO
open PySem PyProof PyProof.Rows
section
variable {prog:Program} {w:World} {A:Around} {E:Value->Shared->Prop} {s:Shared} {st:SortSt} {lo nr:Nat}
theorem Qi3 {b:Nat} {Q:Option (Option Nat)×Nat->SortSt->Prop} (hk:kindOf st=oneType') (ki:∀ x∈arrOf st,KI x) (hn:lo+nr≤(arrOf st).size) (hb:1≤b) (hbn:b≤nr)
  (so:SOn (arrOf st) lo (lo+b))
  (h:∀ n,b≤n->n≤nr->SOn (arrOf st) lo (lo+n)->(n=nr∨K (arrOf st) (lo+n)<K (arrOf st) (lo+n - 1))->Q (none,n) st) :
  wpS (model prog w) A E s (upL lo b nr) Q st:=by
 unfold upL
 refine wpS_forRange (I:=fun x c st'=>st'=st∧c=(none,x)∧SOn (arrOf st) lo (lo+x)) ?step ?fin ⟨rfl,rfl,so⟩
 case fin =>
  rintro c st' ⟨rfl,rfl,s'⟩
  rw [show max b nr=nr by(clear hb hk hn; (first | lia | omega))] at s' ⊢
  exact h nr hbn (Nat.le_refl _) s' (.inl rfl)
 case step =>
  rintro x c st' h1 h2 ⟨rfl,rfl,s'⟩
  dsimp only
  refine wpS_bind (Qa9 hk ki (by(clear hb hbn h1 hk; (first | lia | omega))) (by(clear hbn hk; (first | lia | omega))) ?_)
  dsimp only
  by_cases hl:K (arrOf st') (lo+x)<K (arrOf st') (lo+x - 1)
  ·refine Qs (decide_eq_true hl) ?_
   exact wpS_pure (h x h1 (by(clear hb hbn h1 hk hn hl; (first | lia | omega))) s' (.inr hl))
  ·refine Qu (Qa8 hl) ?_
   refine wpS_pure ⟨rfl,rfl,fun i j q1 q2 q3=>?_⟩
   by_cases e:j<lo+x
   ·exact s' i j q1 q2 e
   ·have e':j=lo+x:=by(clear hb hbn h1 h2 hk hn hl q1 q2; (first | lia | omega))
    subst e'
    by_cases e2:i=lo+x
    ·subst e2; exact Int.le_refl _
    ·exact Int.le_trans (s' i (lo+x - 1) q1 (by(clear hbn h2 hk hn hl q1 q3 e; (first | lia | omega))) (by(clear hbn h2 hk hn hl q1 q2 q3 e e2; (first | lia | omega)))) (Int.not_lt.mp hl)
theorem QgN {st0:SortSt} {n:Nat} {Q:Option Nat->SortSt->Prop} (hk:kindOf st0=oneType') (ki:∀ x∈arrOf st0,KI x) (hn:lo+nr≤(arrOf st0).size) (C:Chg st0 st lo (lo+nr))
  (h1:1≤n) (h2:n≤nr) (so:NOn (arrOf st) lo (lo+n))
  (h:∀ m st',Chg st0 st' lo (lo+nr)->1≤m->m≤nr->SOn (arrOf st') lo (lo+m)->Q (some m) st'):wpS (model prog w) A E s (endP lo n nr) Q st:=by
 unfold endP
 have hz:lo+n≤(arrOf st).size:=by rw [C.size]; (clear hk h1; (first | lia | omega))
 refine wpS_bind (wpS_reverse ?_)
 have C':Chg st0 (setArr st (mirror (arrOf st) lo (lo+n) ((lo+n - lo) / 2))) lo (lo+nr):=C.trans ((Jl hz).wide (Nat.le_refl _) (by(clear hk hn h1 hz; (first | lia | omega))))
 refine wpS_bind (Qi3 (C'.kind.trans hk) (C'.ki ki) (by rw [C'.size]; exact hn) h1 h2 (fun i j q1 q2 q3=>?_) fun m q1 q2 q3 _=>wpS_pure (h m _ C' (by(clear hk hn h2 hz q2; (first | lia | omega))) q2 q3))
 show K (mirror _ _ _ _) i≤K (mirror _ _ _ _) j
 rw [K_mirror hz,K_mirror hz,if_pos (by(clear hk hn h1 h2 hz; (first | lia | omega))),if_pos (by(clear hk hn h1 h2 hz; (first | lia | omega)))]
 exact so _ _ (by(clear hk hn h1 h2 hz q1 q2; (first | lia | omega))) (by(clear hk hn h1 h2 hz q1; (first | lia | omega))) (by(clear hk hn h1 h2 hz q2; (first | lia | omega)))
theorem QlT {st0:SortSt} {n:Nat} {Q:Option (Option Nat)×Nat×Nat->SortSt->Prop} (hk:kindOf st0=oneType') (ki:∀ x∈arrOf st0,KI x) (hn:lo+nr≤(arrOf st0).size) (C:Chg st0 st lo (lo+nr))
  (h1:1≤n) (h2:n≤nr) (so:NOn (arrOf st) lo (lo+n))
  (h:∀ m q st',Chg st0 st' lo (lo+nr)->n≤m->m≤nr->NOn (arrOf st') lo (lo+m)->q+1≤m->(∀ i,lo+m - (q+1)≤i->i<lo+m->K (arrOf st') i=K (arrOf st') (lo+m - 1))->Q (none,m,q) st') :
  wpS (model prog w) A E s (dnL lo n nr) Q st:=by
 unfold dnL
 refine wpS_forRange (I:=fun x c st'=>∃ q,c=(none,x,q)∧Chg st0 st' lo (lo+nr)∧NOn (arrOf st') lo (lo+x)∧q+1≤x ∧
   (∀ i,lo+x - (q+1)≤i->i<lo+x->K (arrOf st') i=K (arrOf st') (lo+x - 1))) ?step ?fin ⟨0,rfl,C,so,by(clear hk hn h2; (first | lia | omega)),fun i q1 q2=>by congr 1; (clear hk hn h2; (first | lia | omega))⟩
 case fin =>
  rintro c st' ⟨q,rfl,C',s',hq,he⟩
  rw [show max n nr=nr by(clear hk hn h1 hq; (first | lia | omega))] at s' hq he ⊢
  exact h nr q st' C' h2 (Nat.le_refl _) s' hq he
 case step =>
  rintro x c st' a1 a2 ⟨q,rfl,C',s',hq,he⟩
  dsimp only
  have hz:lo+x<(arrOf st').size:=by rw [C'.size]; (clear hk h1 h2 a1 hq; (first | lia | omega))
  have more:∀ xs:Array Keyed,(∀ k,K xs k=K (arrOf st') k)->K (arrOf st') (lo+x)≤K (arrOf st') (lo+x - 1)->NOn xs lo (lo+(x+1)):=by
   intro xs hx hl i j q1 q2 q3
   rw [hx,hx]
   by_cases e:j<lo+x
   ·exact s' i j q1 q2 e
   ·have e':j=lo+x:=by(clear hk hn h1 h2 a1 a2 hq hz hl q1 q2; (first | lia | omega))
    subst e'
    by_cases e2:i=lo+x
    ·subst e2; exact Int.le_refl _
    ·exact Int.le_trans hl (s' i (lo+x - 1) q1 (by(clear hk hn h1 h2 a1 a2 hq hz hl q1 q3 e; (first | lia | omega))) (by(clear hk hn h2 a2 hq hz hl q1 q2 q3 e e2; (first | lia | omega))))
  refine wpS_bind (Qa9 (C'.kind.trans hk) (C'.ki ki) hz (by(clear hk hn h2 a2 hq; (first | lia | omega))) ?_)
  dsimp only
  by_cases hl:K (arrOf st') (lo+x)<K (arrOf st') (lo+x - 1)
  ·refine Qs (decide_eq_true hl) ?_
   by_cases hq0:q > 0
   ·refine Qs hq0 ?_
    refine wpS_bind (wpS_reverse (wpS_pure ⟨0,rfl,C'.trans ((Jl (by(clear hk hn h1 h2 a1 a2 hq hl hq0; (first | lia | omega)))).wide (by(clear hk hn h1 h2 a1 a2 hz hl hq0; (first | lia | omega))) (by(clear hk hn h1 h2 a1 hq hz hl hq0; (first | lia | omega)))),more _ (fun k=>K_mirror_equal (by(clear hk hn h1 h2 a1 a2 hq hl hq0; (first | lia | omega))) he k) (Int.le_of_lt hl),by(clear hk hn h1 h2 a1 a2 hq hz hl hq0; (first | lia | omega)),fun i q1 q2=>by congr 1; (clear hk hn h2 a2 hq hz hl hq0; (first | lia | omega))⟩))
   ·refine Qu hq0 ?_
    exact wpS_pure ⟨0,rfl,C',more _ (fun _=>rfl) (Int.le_of_lt hl),by(clear hk hn h1 h2 a1 a2 hq hz hl hq0; (first | lia | omega)),fun i q1 q2=>by congr 1; (clear hk hn h2 a2 hq hz hl hq0; (first | lia | omega))⟩
  ·refine Qu (Qa8 hl) ?_
   refine wpS_bind (Qa9 (C'.kind.trans hk) (C'.ki ki) (by(clear hk hn h2 a2 hq hl; (first | lia | omega))) hz ?_)
   dsimp only
   by_cases hg:K (arrOf st') (lo+x - 1)<K (arrOf st') (lo+x)
   ·refine Qs (decide_eq_true hg) ?_
    exact wpS_pure (h x q st' C' a1 (by(clear hk hn h1 h2 a1 hq hz hl hg; (first | lia | omega))) s' hq he)
   ·refine Qu (Qa8 hg) ?_
    have e:K (arrOf st') (lo+x)=K (arrOf st') (lo+x - 1):=by(clear hk hn h1 h2 a1 a2 hq hz; (first | lia | omega))
    refine wpS_pure ⟨q+1,rfl,C',more _ (fun _=>rfl) (by(clear hk hn h1 h2 a1 a2 hq hz e; (first | lia | omega))),by(clear hk hn h1 h2 a1 a2 hz hl hg e; (first | lia | omega)),fun i q1 q2=>?_⟩
    rw [show lo+(x+1) - 1=lo+x by(clear hk hn h2 a2 hq hz hl hg e q1 q2; (first | lia | omega))]
    by_cases e2:i=lo+x
    ·subst e2; rfl
    ·rw [e]; exact he i (by(clear hk hn h1 h2 a1 a2 hz hl hg e; (first | lia | omega))) (by(clear hk hn h1 h2 a1 a2 hq hz hl hg e q1; (first | lia | omega)))
theorem Qi4 {st0:SortSt} {n:Nat} {Q:Option Nat->SortSt->Prop} (hk:kindOf st0=oneType') (ki:∀ x∈arrOf st0,KI x) (hn:lo+nr≤(arrOf st0).size) (C:Chg st0 st lo (lo+nr))
  (h2:n+1≤nr) (so:NOn (arrOf st) lo (lo+(n+1)))
  (h:∀ m st',Chg st0 st' lo (lo+nr)->1≤m->m≤nr->SOn (arrOf st') lo (lo+m)->Q (some m) st'):wpS (model prog w) A E s (dnP lo n nr) Q st:=by
 unfold dnP
 refine wpS_bind (wpS_lift (wpAny_rule ⟨rfl,?_⟩))
 refine wpS_bind (QlT hk ki hn C (by(clear hk hn h2; (first | lia | omega))) h2 so fun m q st' C' m1 m2 s' hq he=>?_)
 dsimp only
 have hz:lo+m≤(arrOf st').size:=by rw [C'.size]; (clear hk h2 m1 hq; (first | lia | omega))
 by_cases hq0:q > 0
 ·refine Qs hq0 ?_
  refine wpS_bind (wpS_reverse (QgN hk ki hn (C'.trans ((Jl hz).wide (by(clear hk hn h2 m1 m2 hz hq0; (first | lia | omega))) (by(clear hk hn h2 m1 hq hz hq0; (first | lia | omega))))) (by(clear hk hn h2 m1 m2 hz; (first | lia | omega))) m2 (fun i j q1 q2 q3=>?_) h))
  show K (mirror _ _ _ _) j≤K (mirror _ _ _ _) i
  rw [K_mirror_equal hz he,K_mirror_equal hz he]
  exact s' i j q1 q2 q3
 ·refine Qu hq0 ?_
  exact QgN hk ki hn C' (by(clear hk hn h2 m1 m2 hz; (first | lia | omega))) m2 s' h
theorem QmG {Q:Option Nat->SortSt->Prop} (hk:kindOf st=oneType') (ki:∀ x∈arrOf st,KI x) (hn:lo+nr≤(arrOf st).size) (h1:1≤nr)
  (h:∀ m st',Chg st st' lo (lo+nr)->1≤m->m≤nr->SOn (arrOf st') lo (lo+m)->Q (some m) st'):wpS (model prog w) A E s (countRun' lo nr) Q st:=by
 rw [QmF]
 have one:SOn (arrOf st) lo (lo+1):=fun i j q1 q2 q3=>by
  have e:i=j:=by(clear hk hn h1; (first | lia | omega))
  subst e
  exact Int.le_refl _
 refine wpS_bind (Qi3 hk ki hn (Nat.le_refl 1) h1 one fun n n1 n2 sn hor=>?_)
 dsimp only
 by_cases e:n=nr
 ·refine Qs (QY e) ?_
  exact wpS_pure (h n st (.refl _ _ _) n1 n2 sn)
 refine Qu (Zw e) ?_
 have hl:=hor.resolve_left e
 by_cases hg:n > 1
 ·refine Qs hg ?_
  refine wpS_bind (Qa9 hk ki (by(clear hk n1 n2 hor e hl hg; (first | lia | omega))) (by(clear hk h1 n1 hor e hl; (first | lia | omega))) ?_)
  dsimp only
  by_cases hr:K (arrOf st) lo<K (arrOf st) (lo+n - 1)
  ·refine Qs (decide_eq_true hr) ?_
   exact wpS_pure (h n st (.refl _ _ _) n1 n2 sn)
  ·refine Qu (Qa8 hr) ?_
   have hz:lo+n≤(arrOf st).size:=by(clear hk h1 n1 hor e hl hg hr; (first | lia | omega))
   have all:∀ k,lo≤k->k<lo+n->K (arrOf st) k=K (arrOf st) (lo+n - 1):=fun k q1 q2=>by
    have:=sn lo k (Nat.le_refl _) q1 q2
    have:=sn k (lo+n - 1) q1 (by(clear hk hn h1 n1 n2 hor e hl hg hr hz q1 this; (first | lia | omega))) (by(clear hk hn h1 n1 n2 hor e hl hr hz q1 q2 this; (first | lia | omega)))
    (clear hk hn h1 n1 n2 hor e hl hg hz q1 q2; (first | lia | omega))
   refine wpS_bind (wpS_reverse (Qi4 hk ki hn ((Jl hz).wide (Nat.le_refl _) (by(clear hk hn h1 n1 hor e hl hg hr hz; (first | lia | omega)))) (by(clear hk hn h1 n1 hor hl hg hr hz; (first | lia | omega))) (fun i j q1 q2 q3=>?_) h))
   show K (mirror _ _ _ _) j≤K (mirror _ _ _ _) i
   rw [K_mirror_equal hz all,K_mirror_equal hz all]
   by_cases ej:j<lo+n
   ·rw [all i q1 (by(clear hk hn h1 n1 n2 hor e hl hg hr hz q1 q3; (first | lia | omega))),all j (by(clear hk hn h1 n1 n2 hor e hl hg hr hz q3 ej; (first | lia | omega))) ej]; exact Int.le_refl _
   ·have ej':j=lo+n:=by(clear hk hn h1 n1 n2 hor e hl hg hr hz q1 q2; (first | lia | omega))
    subst ej'
    by_cases ei:i=lo+n
    ·subst ei; exact Int.le_refl _
    ·rw [all i q1 (by(clear hk hn h1 n1 n2 hor e hl hg hr hz q1 q3 ej; (first | lia | omega)))]; exact Int.le_of_lt hl
 ·refine Qu hg ?_
  have e1:n=1:=by(clear hk hn h1 n2 hor e hl; (first | lia | omega))
  subst e1
  refine Qi4 hk ki hn (.refl _ _ _) (by(clear hk hn n1 n2 hor hl hg; (first | lia | omega))) (fun i j q1 q2 q3=>?_) h
  by_cases ei:i=j
  ·subst ei; exact Int.le_refl _
  ·have e2:i=lo:=by(clear hk hn h1 n1 n2 hor e hl hg; (first | lia | omega))
   have e3:j=lo+1:=by(clear hk hn h1 n1 n2 hor e hl hg q1; (first | lia | omega))
   subst e2; subst e3
   exact Int.le_of_lt hl
end
end SO
end
section
namespace SO
open PySem PyProof PyProof.Rows
noncomputable abbrev Pn:=Nat×Nat×Nat
noncomputable def Tl (xs:Array Keyed):Nat->List Pn->Nat->Prop
 | a,[],b=>a=b
 | a,x::r,b=>x.1=a∧0<x.2.1∧SOn xs a (a+x.2.1)∧Tl xs (a+x.2.1) r b
theorem Tl.le {xs:Array Keyed}:∀ {p:List Pn} {a b:Nat},Tl xs a p b->a+p.length≤b
 | [],_,_,h=>Nat.le_of_eq h
 | x::r,a,b,h=>by
  have:=Tl.le h.2.2.2
  have:=h.2.1
  rw [List.length_cons]
  (first | lia | omega)
theorem Tl.app {xs:Array Keyed}:∀ {p q:List Pn} {a b:Nat},Tl xs a (p++q) b->∃ c,Tl xs a p c∧Tl xs c q b
 | [],_,a,_,h=>⟨a,rfl,h⟩
 | _::_,_,_,_,h=>let ⟨c,h1,h2⟩:=Tl.app h.2.2.2; ⟨c,⟨h.1,h.2.1,h.2.2.1,h1⟩,h2⟩
theorem Tl.glue {xs:Array Keyed}:∀ {p q:List Pn} {a c b:Nat},Tl xs a p c->Tl xs c q b->Tl xs a (p++q) b
 | [],_,_,_,_,h,k=>by cases h; exact k
 | _::_,_,_,_,_,h,k=>⟨h.1,h.2.1,h.2.2.1,Tl.glue h.2.2.2 k⟩
theorem Tl.same {xs ys:Array Keyed}:∀ {p:List Pn} {a b:Nat},Tl xs a p b->(∀ k,a≤k->k<b->K ys k=K xs k)->Tl ys a p b
 | [],_,_,h,_=>h
 | x::r,a,b,h,e=>by
  have hl:=Tl.le h.2.2.2
  refine⟨h.1,h.2.1,fun i j h1 h2 h3=>?_,Tl.same h.2.2.2 fun k h1 h2=>e k (by(first | lia | omega)) h2⟩
  rw [e i h1 (by(first | lia | omega)),e j (by(first | lia | omega)) (by(first | lia | omega))]
  exact h.2.2.1 i j h1 h2 h3
theorem Tl.pow {xs:Array Keyed} (f:Pn->Pn) (hf:∀ x,(f x).1=x.1∧(f x).2.1=x.2.1):∀ {p:List Pn} {i a b:Nat},Tl xs a p b->Tl xs a (p.modify i f) b
 | [],i,_,_,h=>by cases i <;> exact h
 | x::r,0,a,b,h=>by
  show Tl xs a (f x::r) b
  unfold Tl
  rw [(hf x).1,(hf x).2]
  exact h
 | _::_,_+1,_,_,h=>⟨h.1,h.2.1,h.2.2.1,Tl.pow f hf h.2.2.2⟩
theorem QlU {l:List Pn} {i:Nat} (h:i+1<l.length):∃ p x y q,l=p++x::y::q∧p.length=i:=by
 refine⟨l.take i,l[i],l[i+1],l.drop (i+2),?_,by rw [List.length_take]; (first | lia | omega)⟩
 rw [← List.drop_eq_getElem_cons h,← List.drop_eq_getElem_cons (by(first | lia | omega)),List.take_append_drop]
theorem QlV (p q:List Pn) (x y z:Pn):((p++x::y::q).set p.length z).eraseIdx (p.length+1)=p++z::q:=by
 rw [List.set_append_right _ _ (Nat.le_refl _),Nat.sub_self,List.set_cons_zero,List.eraseIdx_append_of_length_le (Nat.le_add_right _ 1),Nat.add_sub_cancel_left,List.eraseIdx_cons_succ,List.eraseIdx_cons_zero]
structure Std (a₀:Array Keyed) (st:SortSt) (hi:Nat):Prop where
 kind:kindOf st=oneType'
 failed:failedOf st=none
 perm:(arrOf st).toList.Perm a₀.toList
 tl:Tl (arrOf st) 0 (pendingOf st).toList hi
 le:hi≤a₀.size
theorem Std.size {a₀:Array Keyed} {st:SortSt} {hi:Nat} (h:Std a₀ st hi):(arrOf st).size=a₀.size:=by
 have:=h.perm.length_eq
 rwa [Array.length_toList,Array.length_toList] at this
theorem Std.ki {a₀:Array Keyed} {st:SortSt} {hi:Nat} (h:Std a₀ st hi) (k:∀ x∈a₀,KI x):∀ x∈arrOf st,KI x :=
 fun x hx=>k x (Array.mem_toList_iff.mp (h.perm.mem_iff.mp (Array.mem_toList_iff.mpr hx)))
section
variable {prog:Program} {w:World} {A:Around} {E:Value->Shared->Prop} {s:Shared} {a₀:Array Keyed}
theorem QgO {st:SortSt} {i hi:Nat} {Q:Bool->SortSt->Prop} (k0:∀ x∈a₀,KI x) (S:Std a₀ st hi) (h1:i+1<(pendingOf st).size)
  (h:∀ st',Std a₀ st' hi->(pendingOf st').size+1=(pendingOf st).size->(∀ k,hi≤k->K (arrOf st') k=K (arrOf st) k)->Q true st') :
  wpS (model prog w) A E s (mergeAt' i) Q st:=by
 obtain⟨p,⟨u,m,pw⟩,⟨v,n,pw2⟩,q,e,hp⟩:=QlU (l:=(pendingOf st).toList) (i:=i) (by rw [Array.length_toList]; exact h1)
 have T:=S.tl
 rw [e] at T
 obtain⟨c,T1,T2⟩:=T.app
 obtain⟨e1,m0,so1,e2,n0,so2,T3⟩:=T2
 dsimp only at e1 m0 so1 e2 n0 so2 T3
 subst e1
 subst e2
 have l3:=T3.le
 have l1:=T1.le
 have l0:=S.le
 have hz:=S.size
 have g1:(pendingOf st)[i]?=some (u,m,pw):=by
  rw [← Array.getElem?_toList,e,List.getElem?_append_right (by(first | lia | omega)),hp,Nat.sub_self]; rfl
 have g2:(pendingOf st)[i+1]?=some (u+m,n,pw2):=by
  rw [← Array.getElem?_toList,e,List.getElem?_append_right (by(first | lia | omega)),hp,Nat.add_sub_cancel_left]; rfl
 refine QlS S.kind S.failed (S.ki k0) g1 g2 rfl m0 n0 (by(first | lia | omega)) so1 so2 fun st' hk hf hpe hpm hso hout=>?_
 have ep:(pendingOf st').toList=p++(u,m+n,pw)::q:=by
  rw [hpe,Array.toList_eraseIdxIfInBounds,Array.toList_setIfInBounds,e,← hp,QlV]
 refine h st' ⟨hk,hf,hpm.trans S.perm,?_,l0⟩ ?_ fun k hk=>hout k (.inr (by(first | lia | omega)))
 ·rw [ep]
  refine(T1.same fun k _ h2=>hout k (.inl h2)).glue ⟨rfl,by show 0<m+n; (first | lia | omega),?_,?_⟩
  ·show SOn _ u (u+(m+n))
   rw [← Nat.add_assoc]; exact hso
  ·show Tl _ (u+(m+n)) q hi
   rw [← Nat.add_assoc]
   exact T3.same fun k h2 _=>hout k (.inr h2)
 ·rw [← Array.length_toList,ep,← Array.length_toList (xs:=pendingOf st),e,List.length_append,List.length_append]
  rfl
end
end SO
end
section
namespace SO
open PySem PyProof PyProof.Rows
noncomputable def Qc4 (z lo n:Nat):StateT SortSt Sem (ForInStep (Option Unit×Nat)):=do
 let t ← get
 match (pendingOf t).back? with
 | some (u,m,_)=>do
  let c ← forIn [0:z] ((none,()):Option Unit×Unit) fun _ _=>do
   let t ← get
   match (if (pendingOf t).size > 1 then (pendingOf t)[(pendingOf t).size - 2]? else none) with
   | some (_,_,o) =>
    if o≤power' z (2*u+m) (2*u+m+m+n) z then pure (ForInStep.done (none,())) else do
     let y ← mergeAt' ((pendingOf t).size - 2)
     if (!y)=true then pure (ForInStep.done (some (),())) else pure (ForInStep.yield (none,()))
   | _=>pure (ForInStep.done (none,()))
  match c.fst with
  | some r=>pure (ForInStep.done (some r,lo))
  | none=>do
   modify fun t=>setPending t ((pendingOf t).modify ((pendingOf t).size - 1) fun x=>(x.fst,x.snd.fst,power' z (2*u+m) (2*u+m+m+n) z))
   modify fun t=>setPending t ((pendingOf t).push (lo,n,0))
   pure (ForInStep.yield (none,lo+n))
 | _=>do
  modify fun t=>setPending t ((pendingOf t).push (lo,n,0))
  pure (ForInStep.yield (none,lo+n))
section
variable {prog:Program} {w:World} {A:Around} {E:Value->Shared->Prop} {s:Shared} {a₀:Array Keyed}
theorem Std.push {st:SortSt} {lo n:Nat} (S:Std a₀ st lo) (h0:0<n) (hn:lo+n≤a₀.size) (so:SOn (arrOf st) lo (lo+n)) :
  Std a₀ (setPending st ((pendingOf st).push (lo,n,0))) (lo+n):=by
 refine⟨S.kind,S.failed,S.perm,?_,hn⟩
 show Tl (arrOf st) 0 ((pendingOf st).push (lo,n,0)).toList (lo+n)
 rw [Array.toList_push]
 exact S.tl.glue ⟨rfl,h0,so,rfl⟩
noncomputable def QmH (a₀:Array Keyed) (v:Nat):ForInStep (Option Unit×Nat)->SortSt->Prop
 | .done _,_=>False
 | .yield c,st'=>c=(none,v)∧Std a₀ st' v
theorem QgP {st:SortSt} {z lo n:Nat} (k0:∀ x∈a₀,KI x) (S:Std a₀ st lo) (h0:0<n) (hn:lo+n≤a₀.size) (so:SOn (arrOf st) lo (lo+n)) :
  wpS (model prog w) A E s (Qc4 z lo n) (QmH a₀ (lo+n)) st:=by
 unfold Qc4
 refine wpS_bind (wpS_get ?_)
 cases hb:(pendingOf st).back? with
 | none=>exact wpS_bind (wpS_modify (wpS_pure ⟨rfl,S.push h0 hn so⟩))
 | some x =>
  obtain⟨u,m,pw⟩:=x
  dsimp only
  refine wpS_bind (wpS_mono (wpS_forRange (I:=fun _ c st'=>c=(none,())∧Std a₀ st' lo∧SOn (arrOf st') lo (lo+n)) (Q:=fun c st'=>c=(none,())∧Std a₀ st' lo∧SOn (arrOf st') lo (lo+n))
   ?step (fun _ _ h=>h) ⟨rfl,S,so⟩) ?post)
  case post =>
   rintro c st' ⟨rfl,S',so'⟩
   dsimp only
   refine wpS_bind (wpS_modify (wpS_bind (wpS_modify (wpS_pure ⟨rfl,Std.push (st:=setPending st' _) ⟨S'.kind,S'.failed,S'.perm,?_,S'.le⟩ h0 hn so'⟩))))
   show Tl (arrOf st') 0 ((pendingOf st').modify _ _).toList lo
   rw [Array.toList_modify]
   exact Tl.pow (fun x=>(x.fst,x.snd.fst,power' z (2*u+m) (2*u+m+m+n) z)) (fun _=>⟨rfl,rfl⟩) S'.tl
  case step =>
   rintro x c st' _ _ ⟨rfl,S',so'⟩
   refine wpS_bind (wpS_get ?_)
   by_cases h1:(pendingOf st').size > 1
   ·rw [if_pos h1]
    cases hg:(pendingOf st')[(pendingOf st').size - 2]? with
    | none=>exact wpS_pure ⟨rfl,S',so'⟩
    | some y =>
     obtain⟨y1,y2,o⟩:=y
     dsimp only
     split
     ·exact wpS_pure ⟨rfl,S',so'⟩
     ·refine wpS_bind (QgO k0 S' (by(clear h0 hn hb hg; (first | lia | omega))) fun st2 S2 _ ho=>?_)
      rw [if_neg (by decide)]
      refine wpS_pure ⟨rfl,S2,fun i j q1 q2 q3=>?_⟩
      rw [ho i q1,ho j (by(clear h0 hn hb h1 hg q3; (first | lia | omega)))]
      exact so' i j q1 q2 q3
   ·rw [if_neg h1]
    exact wpS_pure ⟨rfl,S',so'⟩
theorem Qj2 {st:SortSt} {Q:Unit->SortSt->Prop} (k0:∀ x∈a₀,KI x) (S:Std a₀ st 0)
  (h:∀ st',(arrOf st').Perm a₀->failedOf st'=none->SortedTo (arrOf st') a₀.size->Q () st'):wpS (model prog w) A E s sortRuns' Q st:=by
 rw [sortRuns'_eq]
 refine wpS_bind (wpS_get ?_)
 dsimp only
 generalize minRun' (arrOf st).size (arrOf st).size 0=mr
 have hz:=S.size
 generalize hzz:(arrOf st).size=z at hz
 have hz2:=hz
 clear hzz
 refine wpS_bind (wpS_mono (wpS_forRange (I:=fun x c st'=>∃ lo,c=(none,lo)∧Std a₀ st' lo∧(x≤lo∨lo=z))
  (Q:=fun c st'=>c=(none,z)∧Std a₀ st' z) ?step ?fin ⟨0,rfl,S,.inl (Nat.le_refl _)⟩) ?post)
 case fin =>
  rintro c st' ⟨lo,rfl,S',hx⟩
  have:=S'.le
  have e:lo=z:=by(clear hz2; (first | lia | omega))
  subst e
  exact⟨rfl,S'⟩
 case step =>
  rintro x c st' _ hx ⟨lo,rfl,S',hlo⟩
  dsimp only
  have hle:=S'.le
  by_cases hge:lo≥z
  ·refine Qs hge ?_
   have e:lo=z:=by(clear hz2 hx hlo; (first | lia | omega))
   subst e
   exact wpS_pure ⟨rfl,S'⟩
  refine Qu hge ?_
  have hs:=S'.size
  refine wpS_bind (QmG S'.kind (S'.ki k0) (by(clear hz2 hx hlo hle; (first | lia | omega))) (by(clear hz2 hx hlo hle; (first | lia | omega))) fun m st2 C2 m1 m2 so2=>?_)
  have S2:Std a₀ st2 lo:=⟨C2.kind.trans S'.kind,C2.failed.trans S'.failed,C2.perm.trans S'.perm,by
   rw [C2.pend]; exact S'.tl.same fun k _ h2=>C2.out k (.inl h2),hle⟩
  dsimp only
  have fin:∀ {n:Nat} {st3:SortSt} (q:StateT SortSt Sem (ForInStep (Option Unit×Nat))),q=Qc4 z lo n->0<n->lo+n≤a₀.size->Std a₀ st3 lo->SOn (arrOf st3) lo (lo+n) ->
    wpS (model prog w) A E s q (fun r st'=>match r with
     | .done c=>c=(none,z)∧Std a₀ st' z
     | .yield c=>∃ lo,c=(none,lo)∧Std a₀ st' lo∧(x+1≤lo∨lo=z)) st3:=by
   rintro n st3 _ rfl n0 hn S3 so3
   refine wpS_mono (QgP k0 S3 n0 hn so3) fun r st4 hr=>?_
   cases r with
   | done c=>exact hr.elim
   | yield c=>exact⟨lo+n,hr.1,hr.2,by(clear hz2 hx hle m1 m2; (first | lia | omega))⟩
  by_cases hm:m<mr
  ·refine Qs hm ?_
   refine wpS_bind (wpS_lift (wpAny_rule ⟨rfl,?_⟩))
   have hz3:=S2.size
   refine wpS_bind (QmE S2.kind (S2.ki k0) (n:=min (z - lo) mr) (by(clear hz2 hx hlo hle m1 m2 hm; (first | lia | omega))) (by(clear hz hz2 hx hlo hle hge hs m1 hz3; (first | lia | omega))) so2 fun st3 C3 so3=>?_)
   rw [if_neg (by decide)]
   have S3:Std a₀ st3 lo:=⟨C3.kind.trans S2.kind,C3.failed.trans S2.failed,C3.perm.trans S2.perm,by
    rw [C3.pend]; exact S2.tl.same fun k _ h2=>C3.out k (.inl h2),hle⟩
   refine wpS_mono (fin (n:=min (z - lo) mr) _ ?_ (by(clear hz hz2 hx hlo hle hge hs hz3; (first | lia | omega))) (by(clear hz2 hx hlo hle m1 m2 hm; (first | lia | omega))) S3 so3) fun r _ h=>by cases r <;> exact h
   unfold Qc4
   congr 1
   funext t
   cases (pendingOf t).back? with
   | none=>rfl
   | some x =>
    obtain⟨u,m,pw⟩:=x
    dsimp only
    congr 1
    funext c
    obtain⟨r,u'⟩:=c
    cases r <;> rfl
  ·refine Qu hm ?_
   refine wpS_mono (fin (n:=m) _ ?_ (by(clear hz hz2 hx hlo hle hge hs m2 hm; (first | lia | omega))) (by(clear hz2 hx hlo hle m1 hm; (first | lia | omega))) S2 so2) fun r _ h=>by cases r <;> exact h
   unfold Qc4
   congr 1
   funext t
   cases (pendingOf t).back? with
   | none=>rfl
   | some x =>
    obtain⟨u,m,pw⟩:=x
    dsimp only
    congr 1
    funext c
    obtain⟨r,u'⟩:=c
    cases r <;> rfl
 case post =>
  rintro c st' ⟨rfl,S'⟩
  dsimp only
  refine wpS_bind (wpS_mono (wpS_forRange (I:=fun x c st'=>c=(none,())∧Std a₀ st' z∧((pendingOf st').size≤1∨(pendingOf st').size+x≤z))
   (Q:=fun c st'=>c=(none,())∧Std a₀ st' z∧(pendingOf st').size≤1) ?s1 ?f1 ⟨rfl,S',.inr ?i1⟩) ?p1)
  case i1 =>
   have:=S'.tl.le
   rw [Array.length_toList] at this
   (clear hz2; (first | lia | omega))
  case f1 =>
   rintro c st2 ⟨rfl,S2,hp⟩
   exact⟨rfl,S2,by(clear hz2; (first | lia | omega))⟩
  case p1 =>
   rintro c st2 ⟨rfl,S2,hp⟩
   dsimp only
   refine wpS_pure (h st2 (Array.perm_iff_toList_perm.mpr S2.perm) S2.failed ?_)
   intro i j hij hj
   have T:=S2.tl
   rw [← Array.length_toList] at hp
   cases hl:(pendingOf st2).toList with
   | nil =>
    rw [hl] at T
    have:0=z:=T
    (clear hz2 hp hij hl; (first | lia | omega))
   | cons x r =>
    rw [hl] at T hp
    have hr:r=[]:=by
     cases r with
     | nil=>rfl
     | cons _ _=>simp at hp
    subst hr
    have e:0+x.2.1=z:=T.2.2.2
    exact T.2.2.1 i j (Nat.zero_le _) hij (by(clear hz2 hij hp hl; (first | lia | omega)))
  case s1 =>
   rintro x c st2 _ hx ⟨rfl,S2,hp⟩
   refine wpS_bind (wpS_get ?_)
   by_cases h1:(pendingOf st2).size≤1
   ·rw [if_pos h1]
    exact wpS_pure ⟨rfl,S2,h1⟩
   rw [if_neg h1]
   have go:∀ i,i+1<(pendingOf st2).size->wpS (model prog w) A E s (do
     let y ← mergeAt' i
     if (!y)=true then pure (ForInStep.done (some (),())) else pure (ForInStep.yield (none,())))
     (fun r st'=>match r with
      | .done c=>c=(none,())∧Std a₀ st' z∧(pendingOf st').size≤1
      | .yield c=>c=((none,()):Option Unit×Unit)∧Std a₀ st' z∧((pendingOf st').size≤1∨(pendingOf st').size+(x+1)≤z)) st2:=fun i hi =>
    wpS_bind (QgO k0 S2 hi fun st3 S3 hs _=>by
     rw [if_neg (by decide)]
     exact wpS_pure ⟨rfl,S3,by(clear hz2 hx h1 hi; (first | lia | omega))⟩)
   by_cases hc:Option.any (fun q=>decide (q<(pendingOf st2)[(pendingOf st2).size - 2+1]?.elim 0 fun x=>x.2.1)) (if (pendingOf st2).size - 2 > 0 then (pendingOf st2)[(pendingOf st2).size - 2 - 1]?.map (fun x=>x.2.1) else none)=true
   ·rw [if_pos hc]
    exact wpS_mono (go _ (by(clear hz hz2 hx hp hc; (first | lia | omega)))) fun r _ h=>by cases r <;> exact h
   ·rw [if_neg hc]
    exact wpS_mono (go _ (by(clear hz hz2 hx hp hc; (first | lia | omega)))) fun r _ h=>by cases r <;> exact h
end
end SO
end
section
namespace SO
open PySem PyProof PyProof.Rows
section
variable {prog:Program} {w:World} {A:Around} {E:Value->Shared->Prop} {s:Shared}
theorem QhV {p:Addr} {us:List Value} {zs:List Int} {e0:Nat} {P:Fin->Shared->Prop} (ho:s.heap.get? p=some (seqObj "list" us.toArray e0))
  (hu:IntsAre us zs) (hl:us.length≤sizeLine)
  (h:∀(out:Array Value) (ys:List Int),IntsAre out.toList ys->ys.Perm zs->ys.Pairwise (· ≤ ·)->P (.done (.ret .none)) { s with heap:=sortedHeap s.heap p us out }) :
  wpAny (model prog w) A (Builtin.«list.sort» ⟨[.ref p],[]⟩) P E s:=by
 by_cases h64:us.length<64
 ·exact list_sort_tree ho hu h64 h
 rw [list_sort_plain]
 have hp:p<s.heap.objs.size:=Heap.lt_size ho
 have hs:us.toArray.size=us.length:=List.size_toArray
 refine wpAny_bind (listItems_at ho rfl (wpAny_bind (listUpdate_at ho rfl ?_ (by rw [hs]; exact hl) (Nat.zero_le _))))
 obtain⟨e1,o1⟩:∃ e1,(s.heap.update p (Obj.mapSeq fun _=>#[])).get? p=some (seqObj "list" #[] e1):=⟨_,get?_update_seq ho (fun _=>#[])⟩
 refine wpAny_bind (seqEpoch_at o1 rfl (wpAny_bind (wpAny_newTuple (wpAny_bind (wpAny_newList (wpAny_holding ?_))))))
 have o2:(((s.heap.update p (Obj.mapSeq fun _=>#[])).push (seqObj "tuple" us.toArray 0)).push (seqObj "list" #[] 0)).get? p=some (seqObj "list" #[] e1):=by
  rw [Heap.get?_push_ne _ _ _ (by rw [size_push',Heap.size_update]; exact Nat.ne_of_lt (Nat.lt_succ_of_lt hp)),
   Heap.get?_push_ne _ _ _ (by rw [Heap.size_update]; exact Nat.ne_of_lt hp)]
  exact o1
 show wpAny (model prog w) A _ P E
  { s with heap:=((s.heap.update p (Obj.mapSeq fun _=>#[])).push (seqObj "tuple" us.toArray 0)).push (seqObj "list" #[] 0) }
 dsimp only
 rw [if_neg (by(first | lia | omega)),if_neg (by(first | lia | omega))]
 have kk:keyKind' us.toArray=pure oneType':=by
  match us,hu,h64 with
  | [],_,h64=>exact absurd (show(0:Nat)<64 by(first | lia | omega)) h64
  | [_],_,h64=>exact absurd (show(1:Nat)<64 by(first | lia | omega)) h64
  | _::_::_,hu,_=>exact keyKind_ints hu
 rw [kk]
 have KS:∀ x∈pairsOf us,KI x:=fun x hx=>hu.intKeys x (Array.mem_toList_iff.mpr hx)
 have ST:Std (pairsOf us) (SortSt.mk' oneType' (us.toArray.zip us.toArray) #[] 7 none) 0:=⟨rfl,rfl,List.Perm.refl _,rfl,Nat.zero_le _⟩
 refine wpAny_bind (wpAny_pure (wpAny_bind (wpAny_mono (Qj2 KS ST
  (Q:=fun _ t=>(arrOf t).Perm (pairsOf us)∧failedOf t=none∧SortedTo (arrOf t) (pairsOf us).size) fun t b1 b2 b3=>⟨b1,b2,b3⟩) ?_ fun _ _ x=>x)))
 rintro ⟨⟨⟩,t⟩ s' ⟨rfl,b1,b2,b3⟩
 dsimp only
 refine wpAny_bind (seqEpoch_at o2 rfl (wpAny_bind (listUpdate_at o2 rfl ?_ (Nat.zero_le _) ?_)))
 ·rw [b2]
  simp only [bne_self_eq_false,Bool.false_eq_true,if_false]
  obtain⟨ys,c1,c2,c3⟩:=sorted_out hu b1 b3
  exact wpAny_pure (h _ ys c1 c2 c3)
 ·have:=b1.size_eq
  rw [pairsOf_size] at this
  rw [Array.size_map]
  exact Nat.le_trans (Nat.le_of_eq this) (Nat.le_succ_of_le hl)
theorem sorted_any {p:Addr} {us:List Value} {zs:List Int} {Q:Value->Shared->Prop} (hp:s.heap.IsList p us.toArray) (hu:IntsAre us zs) (hl:us.length≤sizeLine)
  (h:∀(out:Array Value) (ys:List Int),IntsAre out.toList ys->ys.Perm zs->ys.Pairwise (· ≤ ·)->Q (.ref (s.heap.objs.size+1)) { s with heap:=sortedAll s.heap us out }) :
  wpAny (model prog w) A (call (.builtin "sorted") [.ref p]) Q E s:=by
 refine Calls.call_function_entry kind_sorted plain_sorted entry_sorted (args_sorted1 _) ?_
 unfold Builtin.«sorted»
 refine wpAny_bind (m:=checkCount "sorted" 1 1 _) (wpAny_pure (wpAny_bind (collect_list hp (wpAny_bind (wpAny_newList ?_)) hl)))
 have z:((s.heap.push (seqObj "list" #[] 0)).update s.heap.objs.size (Obj.mapSeq (· ++ us.toArray))).objs.size=s.heap.objs.size+1:=by rw [Heap.size_update,size_push']
 have o:(((s.heap.push (seqObj "list" #[] 0)).update s.heap.objs.size (Obj.mapSeq (· ++ us.toArray))).push (seqObj "list" us.toArray 0)).get? (s.heap.objs.size+1)
   = some (seqObj "list" us.toArray 0):=by rw [← z]; exact Heap.get?_push_size _ rfl
 show wpAny _ _ _ _ _
  { s with heap:=((s.heap.push (seqObj "list" #[] 0)).update s.heap.objs.size (Obj.mapSeq (· ++ us.toArray))).push (seqObj "list" us.toArray 0) }
 rw [z]
 refine wpAny_bind (wpAny_holding (wpAny_call_entry slot_list_sort ⟨_,o,rfl⟩ entry_list_sort (QhV o hu hl fun out ys b1 b2 b3=>⟨_,rfl,wpAny_pure ⟨_,rfl,h out ys b1 b2 b3⟩⟩) (args_list_sort _)))
end
end SO
end
section
namespace L3
open PySem
noncomputable def insZ (x:Int):List Int->List Int
 | []=>[x]
 | y::r=>if x≤y then x::y::r else y::insZ x r
noncomputable def Js:List Int->List Int
 | []=>[]
 | x::r=>insZ x (Js r)
noncomputable def JE (x:D) (g:G):Res D:=match QG g x with
 | some (true,ds)=>(match Qaz ds with
  | some ns=>.ok (.ref g.length) (g++[.lst ((Js ns).map .int)])
  | none=>.stuck)
 | _=>.stuck
theorem Qba (x:Int):∀ l:List Int,(insZ x l).Perm (x::l)
 | []=>.refl _
 | y::r=>by
  unfold insZ
  split
  ·exact .refl _
  ·exact((Qba x r).cons y).trans (List.Perm.swap x y r)
theorem YF:∀ l:List Int,(Js l).Perm l
 | []=>.refl _
 | x::r=>(Qba x (Js r)).trans ((YF r).cons x)
theorem Qbb (x:Int):∀ l:List Int,l.Pairwise (· ≤ ·)->(insZ x l).Pairwise (· ≤ ·)
 | [],_=>by simp [insZ]
 | y::r,h=>by
  unfold insZ
  have h':=List.pairwise_cons.mp h
  split
  ·rename_i hxy
   exact List.pairwise_cons.mpr ⟨fun z hz=>by
    rcases List.mem_cons.mp hz with rfl | hz
    ·exact hxy
    ·exact Int.le_trans hxy (h'.1 z hz),h⟩
  ·rename_i hxy
   refine List.pairwise_cons.mpr ⟨fun z hz=>?_,Qbb x r h'.2⟩
   rcases List.mem_cons.mp ((Qba x r).mem_iff.mp hz) with rfl | hz
   ·omega
   ·exact h'.1 z hz
theorem Ja:∀ l:List Int,(Js l).Pairwise (· ≤ ·)
 | []=>.nil
 | x::r=>Qbb x _ (Ja r)
theorem JF:∀(l m:List Int),l.Perm m->l.Pairwise (· ≤ ·)->m.Pairwise (· ≤ ·)->l=m
 | [],m,h,_,_=>(List.nil_perm.mp h).symm
 | x::l,[],h,_,_=>by have:=h.length_eq; simp at this
 | x::l,y::m,h,hl,hm=>by
  have hl':=List.pairwise_cons.mp hl
  have hm':=List.pairwise_cons.mp hm
  have e:x=y:=by
   have h1:x∈y::m:=h.mem_iff.mp (List.mem_cons_self ..)
   have h2:y∈x::l:=h.mem_iff.mpr (List.mem_cons_self ..)
   have a:y≤x:=by
    rcases List.mem_cons.mp h1 with e | h1
    ·omega
    ·exact hm'.1 x h1
   have b:x≤y:=by
    rcases List.mem_cons.mp h2 with e | h2
    ·omega
    ·exact hl'.1 y h2
   omega
  subst e
  rw [JF l m ((List.perm_cons x).mp h) hl'.2 hm'.2]
end L3
end
section
namespace L3
open PySem PySem.Spec PyProof.Rows L2
section
variable {X:Cx} {ca:Nat->Addr} {a b e o i:Expr} {ma mb me mo mi:ME} {pos p p2 apos:Pos} {k:Nat}
theorem QbP:∀ {ns:List Int} {us:List Value},Vals (ns.map V.int) us->IntsAre us ns
 | [],_,h=>by cases h; exact .nil
 | n::ns,_,h=>by
  cases h with
  | cons h1 h2 =>
   obtain⟨t,rfl⟩:=h1
   exact .cons n t (QbP h2)
theorem QgQ:∀ {us:List Value} {ns:List Int},IntsAre us ns->Vals (ns.map V.int) us
 | _,_,.nil=>.nil
 | _,_,.cons n t r=>.cons ⟨t,rfl⟩ (QgQ r)
theorem QdN:Qac X (.builtin "sorted") (fun xs H Q=>∃(p:Addr) (ns:List Int),xs=[.ref p]∧SqL X.K H p (ns.map V.int)∧∀ l,H l=none->Q (.ref l) (upd H l (.lst ((Js ns).map V.int)))):=by
 intro pins s σ H xs us Q I r h
 obtain⟨p,ns,rfl,hq,q⟩:=h
 obtain⟨u,rfl,rx⟩:=Qhx r
 cases rx
 obtain⟨its,r',pl,hz⟩:=I.list hq
 have hlen:=r'.length
 rw [List.length_map] at hlen
 refine SO.sorted_any pl.isList (QbP r') (by rw [List.length_map] at hz; rw [← hlen]; exact hz) fun out ns' a1 a2 a3=>?_
 have e:ns'=Js ns:=JF _ _ (a2.trans (YF ns).symm) a3 (Ja ns)
 subst e
 obtain⟨c,he⟩:=sortedAll_at s.heap its out
 have hl2:((Js ns).map V.int).length≤sizeLine:=by rw [List.length_map,(YF ns).length_eq]; rw [List.length_map] at hz; exact hz
 exact⟨.ref (s.heap.objs.size+1),_,I.laid (t':=s.toks) (fun b o=>sortedAll_old) (Nat.le_succ _) (show ObjOk X.prog X.w _ _ _ (.lst ((Js ns).map V.int)) from ⟨hl2,out.toList,c,QgQ a1,he⟩),rfl,q _ (I.hok.fresh (Nat.le_succ _))⟩
theorem QdO {K:PySem.W.Frag} {μ:List Addr} {H:Hp}:∀ ns:List Int,Dens K μ H (ns.map V.int) (ns.map D.int)
 | []=>.nil
 | n::ns=>.cons (.int n) (QdO ns)
theorem QhW (hm:X.mg "sorted" = none) (he:PE3 ca X e me) (hg:Gl X "sorted":=by rfl) (hs:starEach [e] X.env=[(false,eval e X.env)]:=by rfl) (hpl:(backTo pos (starEach [] X.env)).any (·.1)=false:=by rfl) :
  PE3 ca X (.Call (.Name "sorted" p) [e] [] pos) (mOp1 JE me) :=
 QjF (r:=fun xs H Q=>∃(p:Addr) (ns:List Int),xs=[V.ref p]∧SqL X.K H p (ns.map V.int)∧∀ l,H l=none->Q (.ref l) (upd H l (.lst ((Js ns).map V.int)))) (fun _ _=>QdN) hm boot_sorted (fun Φ σ H μ g y d Q r q pp=>by
  have el:∀ l:Addr,(μ++[l])[g.length]?=some l:=fun l=>by rw [← r.len]; simp
  unfold JE at pp
  cases hs1:QG g d with
  | none=>rw [hs1] at pp; exact pp.elim
  | some p1 =>
   obtain⟨b,ds⟩:=p1
   rw [hs1] at pp
   cases b with
   | false=>exact pp.elim
   | true =>
    dsimp only at pp
    cases hi:Qaz ds with
    | none=>rw [hi] at pp; exact pp.elim
    | some ns =>
     rw [hi] at pp
     dsimp only at pp
     obtain⟨a,ws,rfl,sq,dn⟩:=Ya r q hs1
     have ew:=JS dn hi
     subst ew
     exact⟨a,ns,rfl,sq,fun l hl=>pp _ _ (μ++[l]) (QE hl) (r.push hl ⟨_,Qn,QdO _⟩) (.ref (el l))⟩) he hg (by decide) (by decide) hs hpl
end
end L3
end
section
namespace PySem
open Sem (wp)
namespace F
theorem nolen_lri:typeLookup (.type "list_reverseiterator") "__len__" = pure none:=by rw [typeLookup_type,builtinLookup_eq_fast]; kernel_rfl
theorem hint_lri:typeLookup (.type "list_reverseiterator") "__length_hint__" = pure (some (.builtin "list_reverseiterator.__length_hint__")):=by rw [typeLookup_type,builtinLookup_eq_fast]; kernel_rfl
end F
section
variable {prog:Program} {w:World} {A:Around} {E:Value->Shared->Prop} {s:Shared} {I:Addr} {fp wr:List Addr} {G:Array GenState->Array GenState->Prop} {n:Nat} {P:Nat->Value->Prop} {St:Nat->Shared->Prop}
theorem Qai {Q:List Value->Shared->Prop}
  (W:WalksS prog w A.in1 I fp wr G n P St) (hT:∀ i s,St i s->s.TypeIs (.ref I) "list_reverseiterator") (hst:St 0 s) (hfp:∀ b∈fp,b<s.heap.objs.size) (hI:I∈fp)
  (hQ:∀ s' acc,Moved wr G s s'->ItemsOf P acc n->Q acc.toList s') (hn:n≤sizeLine):wpAny (model prog w) A (collect (.ref I)) Q E s:=by
 have hSf:s.heap.objs.size∉fp:=fun hm=>Nat.lt_irrefl _ (hfp _ hm)
 have hSI:s.heap.objs.size≠I:=fun e=>hSf (e ▸ hI)
 unfold collect
 refine wpAny_bind (wpAny_runValue (codeAny_builtin F.entry_proto_collect ?_))
 rw [Around.under_plainId F.plain_proto_collect _]
 show wpAny _ A.in1 (newList [] >>= fun l=>again (.builtin "list.__iadd__" ⟨[l,.ref I],[]⟩)) _ _ s
 refine wpAny_bind (wpAny_newObj_type ?_)
 refine wpAny_pure ⟨plainId_quiet F.plain_list_iadd _,codeAny_builtin F.entry_list_iadd ?_⟩
 rw [Around.under_plainId F.plain_list_iadd _]
 have hst₁:=W.frame 0 s (s.heap.push { cls:=.type "list",data:=.seq ([]:List Value).toArray }) s.toks hst (Nat.le_refl _) fun b _ o e=>Heap.get?_push_of_some _ e
 have hS₁:(s.heap.push { cls:=.type "list",data:=.seq ([]:List Value).toArray }).get? s.heap.objs.size=some { cls:=.type "list",data:=.seq ([]:List Value).toArray }:=Heap.get?_push_size _ rfl
 have h1:Builtin.List.listSameRef (.ref s.heap.objs.size) (.ref I)=false:=by simp [Builtin.List.listSameRef,hSI]
 show wpAny _ A.in1 (Builtin.List.listExtendWith (.ref s.heap.objs.size) (.ref I) (.ref s.heap.objs.size)) _ _ _
 unfold Builtin.List.listExtendWith
 refine wpAny_bind (wpAny_typeOf (hT 0 _ hst₁) ?_)
 rw [if_neg (by rw [h1]; decide)]
 refine wpAny_bind (W.self 0 _ _ _ hst₁ ?_)
 refine wpAny_bind (wpAny_holding ?_)
 unfold Builtin.List.listLengthHint
 refine wpAny_bind (wpAny_specialOf (hT 0 _ hst₁) F.nolen_lri ?_)
 show wpAny _ A.in1 (specialOf (Value.ref I) (Str.ofString "__length_hint__") >>= _) _ _ _
 refine wpAny_bind (wpAny_specialOf (hT 0 _ hst₁) F.hint_lri ?_)
 (generalize hid:("list_reverseiterator.__length_hint__" : String)=id0; (fail_if_success (clear hid id0)); wp_delta; rw [show splitId id0=some ("list_reverseiterator", "__length_hint__") from by subst hid; decide +kernel]; subst hid)
 refine wpAny_bind (wpAny_isInstance (b:=true) (hT 0 _ hst₁) (by rw [isSubtype_type]; kernel_rfl) ?_)
 refine wpAny_pure ?_
 rw [if_neg (by decide)]
 refine wpAny_pure ⟨plainId_quiet F.plain_extend_loop _,codeAny_extend_loopS W hn _ hSf _ n 0 _ _ _ rfl (Nat.zero_le _) hst₁ hS₁ (ItemsOf.nil P) fun s' acc' c' hm hS' hacc=>?_⟩
 show wpAny _ A (load s.heap.objs.size >>= _) _ _ s'
 refine wpAny_bind (wpAny_load hS' ?_)
 exact wpAny_pure (hQ s' acc' (Moved.drop_new (o:={ cls:=.type "list",data:=.seq ([]:List Value).toArray }) (tk:=s.toks) hm (Nat.le_refl _)) hacc)
theorem JV {Q₁:Value->Shared->Prop} (W:WalksS prog w A.in1.in1 I fp wr G n P St) (hT:∀ i s,St i s->s.TypeIs (.ref I) "list_reverseiterator") (hst:St 0 s) (hfp:∀ b∈fp,b<s.heap.objs.size) (hI:I∈fp)
  (h:∀ s' acc,Moved wr G s s'->ItemsOf P acc n->Q₁ (.ref s'.heap.objs.size) { s' with heap:=s'.heap.push { cls:=.type "tuple",data:=.seq acc } }) (hsz:n≤sizeLine) :
  codeAny (model prog w) A (.call (.builtin "tuple.__new__") ⟨[.type "tuple",.ref I],[]⟩) (wants Q₁ E) s:=by
 refine codeAny_of_tree ?_
 show wpAny _ A.in1 (do checkBuiltinCall "tuple.__new__" ⟨[.type "tuple",.ref I],[]⟩; again (.builtin "tuple.__new__" ⟨[.type "tuple",.ref I],[]⟩)) _ _ s
 refine wpAny_bind (wpAny_of_eq (F.newCall_tuple_1 _) (wpAny_pure ⟨plainId_quiet F.plain_tuple_new _,codeAny_builtin F.entry_tuple_new ?_⟩))
 rw [Around.under_plainId F.plain_tuple_new _]
 have hsub:=sub_tuple_self
 have hinit:=init_tuple_lookup
 have hmh:=madeHere_tuple
 have hTI:=hT 0 s hst
 wp_walk using wpAny_typeOf hTI,Qai (hn:=hsz) W hT hst hfp hI
 intro s' acc hm hacc
 show wpAny _ _ (Builtin.Tuple.tupleExact acc.toList.toArray >>= fun v=>ret v) _ _ _
 unfold Builtin.Tuple.tupleExact
 refine wpAny_bind (wpAny_newObj_type ?_ (by show acc.toList.toArray.size≤sizeLine; simp only [Array.toArray_toList]; rw [hacc.1]; exact hsz))
 refine wpAny_pure ?_
 have e:acc.toList.toArray=acc:=by simp
 rw [e]
 exact h s' acc hm hacc
theorem Qby {Q:Value->Shared->Prop} (W:WalksS prog w A.in1.in1.in1 I fp wr G n P St) (hT:∀ i s,St i s->s.TypeIs (.ref I) "list_reverseiterator") (hst:St 0 s) (hfp:∀ b∈fp,b<s.heap.objs.size) (hI:I∈fp)
  (hQ:∀ s' acc,Moved wr G s s'->ItemsOf P acc n->Q (.ref s'.heap.objs.size) { s' with heap:=s'.heap.push { cls:=.type "tuple",data:=.seq acc } }) (hsz:n≤sizeLine) :
  wpAny (model prog w) A (call (.type "tuple") [.ref I]) Q E s:=by
 refine callType_codes (Q₁:=fun obj s₁=>s₁.TypeIs obj "tuple" ∧ Q obj s₁) F.called_tuple (F.typeCall_tuple_1 _) F.entry_object_init
  (JV (hsz:=hsz) W hT hst hfp hI fun s' acc hm hacc=>⟨⟨_,Heap.get?_push_size _ rfl,rfl⟩,hQ s' acc hm hacc⟩) fun obj s₁ h₁=>?_
 exact⟨h₁.1,F.args_object_init_2 obj _,object_init_meets F.called_tuple.init.lookup F.called_tuple.made (by decide) prog w A.in1 _ s₁ ⟨h₁.1,rfl,h₁.2⟩⟩
theorem Qbz {l:Addr} {its:List Value} {Q:Value->Shared->Prop} (hh:A.handled=none) (hne:l≠I) (hit:s.heap.IsRevIter I l ((its.toArray.size:Int) - 1)) (hl:s.heap.IsList l its.toArray) (hsz:its.toArray.size≤sizeLine)
  (hQ:∀(h':Heap) (tk:Nat),(∀ b o,b≠I->s.heap.get? b=some o->h'.get? b=some o)->Q (.ref h'.objs.size) { s with heap:=h'.push { cls:=.type "tuple",data:=.seq its.reverse.toArray },toks:=tk }) :
  wpAny (model prog w) A (call (.type "tuple") [.ref I]) Q E s:=by
 refine Qby (Walks.listRev (A:=A.in1.in1.in1) hh I l hne its.toArray).toS (fun _ _ st=>st.2.1.typeIs) ⟨Nat.zero_le _,by simpa using hit,hl⟩ (fun b hb=>?_) (by simp) (fun s' acc hm ha=>?_) hsz
 ·obtain⟨o,ho,_⟩:=hit
  obtain⟨o',ho',_⟩:=hl
  rcases List.mem_cons.mp hb with rfl | hb
  ·exact Heap.lt_size ho
  ·rw [List.mem_singleton.mp hb]; exact Heap.lt_size ho'
 ·have e:acc=its.reverse.toArray:=by
   apply Array.ext_getElem?
   intro i
   by_cases hi:i<its.length
   ·have h1:acc[i]?=some (acc[i]'(by rw [ha.1]; simpa using hi)):=Array.getElem?_eq_getElem _
    have h2:=ha.2 i _ h1
    rw [h1,← h2]
    simp only [List.size_toArray,List.getElem?_toArray,List.getElem?_reverse hi]
   ·have hs:acc.size=its.length:=by rw [ha.1]; simp
    rw [Array.getElem?_eq_none (by omega),List.getElem?_toArray,List.getElem?_eq_none (by simp; omega)]
  subst e
  have e2:s' = { s with heap:=s'.heap,toks:=s'.toks }:=by
   have a1:=hm.gens
   have a2:=hm.drawn
   have a3:=hm.os
   cases s'
   cases s
   simp only at a1 a2 a3 ⊢
   subst a1 a2 a3
   rfl
  have:=hQ s'.heap s'.toks fun b o hb e=>hm.heap b o (by simpa using hb) e
  rw [e2]
  exact this
end
end PySem
end
section
namespace L3
open PySem
noncomputable def YG (x:D) (g:G):Res D:=match QG g x with
 | some (true,ds)=>.ok (.tup ds.reverse) g
 | _=>.stuck
end L3
end
section
namespace L3
open PySem PySem.Spec PyProof.Rows L2
theorem QeH:∀ {xs:List V} {us:List Value},Vals xs us->Vals xs.reverse us.reverse
 | _,_,.nil=>.nil
 | _,_,.cons h t=>by rw [List.reverse_cons,List.reverse_cons]; exact(QeH t).append (.cons h .nil)
theorem Dens.rev {K:PySem.W.Frag} {μ:List Addr} {H:Hp}:∀ {vs:List V} {ds:List D},Dens K μ H vs ds->Dens K μ H vs.reverse ds.reverse
 | _,_,.nil=>.nil
 | _,_,.cons h t=>by rw [List.reverse_cons,List.reverse_cons]; exact(Dens.rev t).append (.cons h .nil)
section
variable {X:Cx} {ca:Nat->Addr} {e:Expr} {me:ME} {p p2 pos pos2:Pos}
theorem QgR {ta:TA} (hs0:starEach [.Call (.Name "reversed" p2) [e] [] pos2] X.env=[(false,eval (.Call (.Name "reversed" p2) [e] [] pos2) X.env)]) (hg:Gl X "tuple") (hm:X.mg "tuple" = none) (hg2:Gl X "reversed") (hm2:X.mg "reversed" = none)
  (ha:PA X [e] ta) (hs:starEach [e] X.env=[(false,eval e X.env)]) (hc:X.calm=true) :
  PE X (.Call (.Name "tuple" p) [.Call (.Name "reversed" p2) [e] [] pos2] [] pos) (fun σ H Q=>ta σ H fun vs H1=>∃ a xs,vs=[.ref a]∧SqL X.K H1 a xs∧∀ l,H1 l=none->Q (.ref l) (upd H1 l (.tup xs.reverse))):=by
 intro pins s σ H Q I h
 refine Call_ (Qas I hg hm boot_tuple (PyProof.Rows.callWith_type1 ?_ hs0 rfl))
 rw [hs0]
 show wpAny _ _ (spliced ((false,eval (.Call (.Name "reversed" p2) [e] [] pos2) X.env)::[])) _ _ s
 refine Calls.spliced_cons (Call_ (Qas I hg2 hm2 boot_reversed (PyProof.Rows.callWith_type1 (thn (ha pos2 pins s σ H _ I h) fun us s1 hv=>?_) hs rfl)))
 obtain⟨vs,H1,I1,r1,a,xs,rfl,hq,q⟩:=hv
 cases r1 with
 | cons r rr =>
  cases rr
  cases r
  have h63:=Qat
  obtain⟨its,rv,pl,hz⟩:=I1.list hq
  have hl:=rv.length
  obtain⟨f0,f1,f2,f3,f4,f5⟩:=I1.fpOk (Nat.le_refl _) (I1.hok.fresh (Nat.le_refl _))
  refine call_reversed_list pl.isList (Calls.spliced_nil ?_)
  have I2:Inv X pins σ H1 { s1 with heap:=s1.heap.push (revObj a ((its.toArray.size:Int) - 1)) }:=I1.kept (t':=s1.toks) fun b o e=>Heap.get?_push_of_some _ e
  have ll:a≠s1.heap.objs.size:=fun z=>by
   obtain⟨o,ho,_⟩:=pl.isList
   exact absurd (Heap.lt_size ho) (by rw [z]; exact Nat.lt_irrefl _)
  refine Qbz (I:=s1.heap.objs.size) (l:=a) (its:=its) (s:={ s1 with heap:=s1.heap.push (revObj a ((its.toArray.size:Int) - 1)) }) (I1.ok.hd hc) ll ⟨_,Heap.get?_push_size _ rfl,rfl,rfl⟩ (pl.isList.at fun o e=>Heap.get?_push_of_some _ e) (by simp only [List.size_toArray]; omega) fun h' tk kp=>?_
  have I3:Inv X pins σ H1 { s1 with heap:=h',toks:=tk }:=I2.turned (t':=tk) (fun b o hb e=>kp b o hb e) f0 f1 f3 f4 f5
  refine⟨.ref h'.objs.size,_,I3.laid (t':=tk) (fun b o e=>Heap.get?_push_of_some _ e) (Nat.le_refl _) (show ObjOk X.prog X.w _ _ _ (.tup xs.reverse) from ⟨by rw [List.length_reverse]; exact hz,its.reverse,QeH rv,IsTup.new _ _⟩),rfl,q _ (I3.hok.fresh (Nat.le_refl _))⟩
theorem Qfm (hc:X.calm=true) (hm:X.mg "tuple" = none) (hm2:X.mg "reversed" = none) (he:PE3 ca X e me)
  (hs0:starEach [.Call (.Name "reversed" p2) [e] [] pos2] X.env=[(false,eval (.Call (.Name "reversed" p2) [e] [] pos2) X.env)]:=by rfl) (hg:Gl X "tuple":=by rfl) (hg2:Gl X "reversed":=by rfl) (hs:starEach [e] X.env=[(false,eval e X.env)]:=by rfl) :
  PE3 ca X (.Call (.Name "tuple" p) [.Call (.Name "reversed" p2) [e] [] pos2] [] pos) (mOp1 YG me) :=
 fun pn Φ=>Q7 (QgR (X:=xat X ca pn Φ) hs0 hg hm hg2 hm2 (YY he Qk hs pn Φ) hs hc) fun σ H Q hQ=>by
  obtain⟨σ3,g,μ,R,q⟩:=hQ
  refine⟨σ3,g,μ,R,?_⟩
  unfold mOp1 at q
  unfold Qa mNil
  cases hm:me σ3 g with
  | raise _ _=>rw [hm] at q; exact q
  | stuck=>rw [hm] at q; exact q.elim
  | ok d g1 =>
   rw [hm,Res.bind_ok] at q
   rw [Res.bind_ok,Res.bind_ok]
   intro vs H1 μ1 e1 r1 q1
   cases q1 with
   | @cons v _ _ _ h1 h2 =>
    cases h2
    unfold YG at q
    cases hs1:QG g1 d with
    | none=>rw [hs1] at q; exact q.elim
    | some p1 =>
     obtain⟨b,ds⟩:=p1
     rw [hs1] at q
     cases b with
     | false=>exact q.elim
     | true =>
      obtain⟨a,ws,rfl,sq,dn⟩:=Ya r1 h1 hs1
      exact⟨a,ws,rfl,sq,fun l hl=>q _ _ μ1 (e1.trans (Q8 hl)) (r1.new hl) (.tup (.of Qn) (dn.rev.mono (Q8 hl)))⟩
end
end L3
end
section
namespace L3
open PySem PySem.Spec PyProof.Rows L2
noncomputable def datB (K:PySem.W.Frag):Nat->Value->D->Bool
 | 0,_,_=>false
 | f+1,u,d=>match u,d with
  | .none,.non=>true
  | .int i _,.int j=>i == j
  | .ref a,.tup ds=>(match K.lookup a with
   | some ⟨.type t,_,.seq its _,_⟩=>t == "tuple" && decide (its.size≤63) && decide (its.toList.length=ds.length) && (its.toList.zip ds).all fun p=>datB K f p.1 p.2
   | _=>false)
  | _,_=>false
theorem QgS {K:PySem.W.Frag}:∀ {us:List Value} {ds:List D},us.length=ds.length->(∀ p∈us.zip ds,∃ v,RelV v p.1∧∀ μ H,Den K μ H v p.2)->∃ vs,Vals vs us∧∀ μ H,Dens K μ H vs ds
 | [],[],_,_=>⟨[],.nil,fun _ _=>.nil⟩
 | [],_::_,h,_=>nomatch h
 | _::_,[],h,_=>nomatch h
 | u::us,d::ds,h,k=>by
  obtain⟨v,r,q⟩:=k (u,d) (by simp)
  obtain⟨vs,rs,qs⟩:=QgS (us:=us) (ds:=ds) (by simpa using h) fun p hp=>k p (by simp [hp])
  exact⟨v::vs,.cons r rs,fun μ H=>.cons (q μ H) (qs μ H)⟩
theorem Qi5 {K:PySem.W.Frag}:∀(f:Nat) (u:Value) (d:D),datB K f u d=true->∃ v,RelV v u∧∀ μ H,Den K μ H v d
 | 0,_,_,h=>nomatch h
 | f+1,u,d,h=>by
  unfold datB at h
  split at h
  ·exact⟨.non,rfl,fun _ _=>.non⟩
  ·rename_i i t j
   have e:i=j:=beq_iff_eq.mp h
   subst e
   exact⟨.int i,⟨t,rfl⟩,fun _ _=>.int i⟩
  ·rename_i a ds
   split at h
   ·rename_i t dd its n sl hk
    simp only [Bool.and_eq_true,beq_iff_eq,decide_eq_true_eq,List.all_eq_true] at h
    obtain⟨⟨⟨h1,h2⟩,h3⟩,h4⟩:=h
    subst h1
    obtain⟨vs,rs,qs⟩:=QgS h3 fun p hp=>Qi5 f p.1 p.2 (h4 p hp)
    exact⟨.ref a,rfl,fun μ H=>.tup (.inr ⟨_,its,n,hk,rfl,rfl,Nat.le_trans h2 (by rw [sizeLine_eq]; decide),rs⟩) (qs μ H)⟩
   ·cases h
  ·cases h
theorem Qj3 {X:Cx} {ca:Nat->Addr} {pos:Pos} {x:Str} {d:D} (h:∃ u v,X.mg x=some u∧RelV v u∧∀ μ H,Den X.K μ H v d) (hg:Gl X x:=by rfl) (hd:(x == ("__debug__" : Str))=false:=by decide):PE3 ca X (.Name x pos) (mLit d):=by
 obtain⟨u,v,hm,r,q⟩:=h
 exact fun pn Φ=>Q7 (Qdz (X:=xat X ca pn Φ) hg hm r hd) fun _ H _ z=>by
  obtain⟨_,_,μ,R,p⟩:=z
  exact p v H μ .refl R.g (q _ _)
end L3
end
section
namespace L2
open PySem PySem.Spec PyProof.Rows
section
variable {κ:Type} [DecidableEq κ]
noncomputable def valV (kvs:List (κ×V)) (k:κ):Option V:=(kvs.find? fun kv=>decide (kv.1=k)).map (·.2)
noncomputable def putK (kvs:List (κ×V)) (k:κ) (v:V):List (κ×V) :=
 if (kvs.any fun kv=>decide (kv.1=k))=true then kvs.map (fun kv=>if kv.1=k then (kv.1,v) else kv) else kvs++[(k,v)]
noncomputable def Qc5 (kvs:List (κ×V)) (k:κ):List (κ×V):=kvs.filter fun kv=>decide (kv.1≠k)
theorem QeI {p:κ×V} {r:List (κ×V)} {k:κ} (e:p.1=k):valV (p::r) k=some p.2:=by simp [valV,List.find?_cons,e]
theorem QeJ {p:κ×V} {r:List (κ×V)} {k:κ} (e:¬ p.1=k):valV (p::r) k=valV r k:=by simp [valV,List.find?_cons,e]
theorem QdP (kvs:List (κ×V)) (k:κ) (v:V):(putK kvs k v).length≤kvs.length+1:=by
 unfold putK
 split
 ·rw [List.length_map]; omega
 ·rw [List.length_append,List.length_cons,List.length_nil]; omega
theorem RelO.getD {o:Option V} {u:Option Value} {d:V} {d':Value} (r:RelO o u) (rd:RelV d d'):RelV (o.getD d) (u.getD d'):=by
 cases o with
 | none=>cases u with
  | none=>exact rd
  | some _=>exact(show False from r).elim
 | some _=>cases u with
  | none=>exact(show False from r).elim
  | some _=>exact r
theorem KV.val {kvs:List (κ×V)} {vs:List (κ×Value)} (r:KV kvs vs) (k:κ):RelO (valV kvs k) (valueAt vs k):=by
 unfold KV at r
 induction r with
 | nil=>exact True.intro
 | @cons p q ps qs h t ih =>
  obtain⟨h1,h2⟩:=h
  by_cases e:p.1=k
  ·have e':q.1=k:=h1.symm.trans e
   have b:valueAt (q::qs) k=some q.2:=by simp [valueAt,List.find?_cons,e']
   rw [QeI e,b]; exact h2
  ·have e':¬ q.1=k:=fun z=>e (h1.trans z)
   have b:valueAt (q::qs) k=valueAt qs k:=by simp [valueAt,List.find?_cons,e']
   rw [QeJ e,b]; exact ih
theorem KV.any {kvs:List (κ×V)} {vs:List (κ×Value)} (r:KV kvs vs) (k:κ):(kvs.any fun kv=>decide (kv.1=k))=vs.any fun kv=>decide (kv.1=k):=by
 unfold KV at r
 induction r with
 | nil=>rfl
 | cons h t ih=>rw [List.any_cons,List.any_cons,ih,h.1]
theorem KV.repl {kvs:List (κ×V)} {vs:List (κ×Value)} (r:KV kvs vs) (k:κ) {y:V} {u:Value} (ry:RelV y u) :
  KV (kvs.map fun kv=>if kv.1=k then (kv.1,y) else kv) (vs.map fun kv=>if kv.1=k then (kv.1,u) else kv):=by
 unfold KV at r ⊢
 induction r with
 | nil=>exact .nil
 | @cons p q ps qs h t ih =>
  rw [List.map_cons,List.map_cons]
  refine .cons ?_ ih
  obtain⟨h1,h2⟩:=h
  by_cases e:p.1=k
  ·rw [if_pos e,if_pos (h1.symm.trans e)]; exact⟨h1,ry⟩
  ·rw [if_neg e,if_neg (fun z=>e (h1.trans z))]; exact⟨h1,h2⟩
theorem KV.put {kvs:List (κ×V)} {vs:List (κ×Value)} (r:KV kvs vs) (k:κ) {y:V} {u:Value} (ry:RelV y u):KV (putK kvs k y) (stored vs k u):=by
 unfold putK stored
 rw [r.any k]
 by_cases e:(vs.any fun kv=>decide (kv.1=k))=true
 ·rw [if_pos e,if_pos e]; exact r.repl k ry
 ·rw [if_neg e,if_neg e]; exact Paired.snoc r ⟨rfl,ry⟩
theorem KV.drop {kvs:List (κ×V)} {vs:List (κ×Value)} (r:KV kvs vs) (k:κ):KV (Qc5 kvs k) (without vs k):=by
 unfold KV at r ⊢
 unfold Qc5 without
 induction r with
 | nil=>exact .nil
 | @cons p q ps qs h t ih =>
  obtain⟨h1,h2⟩:=h
  rw [List.filter_cons,List.filter_cons]
  by_cases e:p.1=k
  ·have a:¬ decide (p.1≠k)=true:=by simp [e]
   have b:¬ decide (q.1≠k)=true:=by simp [h1.symm.trans e]
   rw [if_neg a,if_neg b]; exact ih
  ·have e':¬ q.1=k:=fun z=>e (h1.trans z)
   have a:decide (p.1≠k)=true:=by simp [e]
   have b:decide (q.1≠k)=true:=by simp [e']
   rw [if_pos a,if_pos b]; exact .cons ⟨h1,h2⟩ ih
theorem KV.length {kvs:List (κ×V)} {vs:List (κ×Value)} (r:KV kvs vs):kvs.length=vs.length:=Paired.length r
theorem QhX (kvs:List (κ×V)) (k:κ):(Qc5 kvs k).length≤kvs.length:=List.length_filter_le _ _
end
theorem QhY {P:Program} {w:World} {k:Key} {u:Value} (r:RelV (kV k) u):(Yi P w).is k u=true:=by
 cases k with
 | inl i=>obtain⟨t,e⟩:=(show ∃ t,u=Value.int i t from r); subst e; exact Qdx P w i t
 | inr x=>obtain⟨t,e⟩:=(show ∃ t,u=Value.str x t from r); subst e; exact Qdy P w x t
section
variable {P:Program} {w:World} {H:Hp} {h:Heap} {a:Addr}
theorem QmI {u:HO} (ok:HOk P w H h) (e:Rd H a u):ObjOk P w H h a u:=e.ok ok
theorem QlW {kvs:List (Key×V)} (ok:HOk P w H h) (e:Rd H a (.dK kvs)):kvs.length≤sizeLine∧(a == sysModules)=false∧∃ vs,KV kvs vs∧h.DictOf (Yi P w) a vs :=
 show ObjOk P w H h a (.dK kvs) from QmI ok e
theorem QgT {kvs:List (Key×V)} (ok:HOk P w H h) (e:H a=some (.dK kvs)):kvs.length≤sizeLine∧(a == sysModules)=false∧∃ vs,KV kvs vs∧h.DictOf (Yi P w) a vs:=QlW ok (.inl e)
end
section
variable {X:Cx} {pins:List (Addr×Obj)} {σ:St} {H:Hp} {s:Shared} {a:Addr} {y v:V} {u r:Value} {o:Option V} {A:Around} {E:Value->Shared->Prop}
theorem Inv.big (I:Inv X pins σ H s):sysModules<s.heap.objs.size:=by
 have h:mainGlobals<s.heap.objs.size:=(I.mod.glob.keeps I.bk).lt
 exact Nat.lt_trans (by decide) h
theorem QgU {h':Heap} {t':Nat} {ob:HO} (I:Inv X pins σ H s) (mu:Mut (H a)) (hs:Heap.SameBut a s.heap h') (he:∃ q,h'.get? a=some q) (new:ObjOk X.prog X.w (upd H a ob) h' a ob) :
  Inv X pins σ (upd H a ob) { s with heap:=h',toks:=t' } :=
 I.write (x:=a) (e:=a) mu (.inl rfl) (fun b q hb z=>(hs.2 b hb).trans z) he new
theorem QgV {P:Program} {w:World} {H':Hp} {h':Heap} {kvs:List (Key×V)} {vs:List (Key×Value)} (z:kvs.length≤sizeLine) (hd:(a == sysModules)=false) (rel:KV kvs vs) (dd:h'.DictOf (Yi P w) a vs) :
  ObjOk P w H' h' a (.dK kvs):=⟨z,hd,vs,rel,dd⟩
end
section
variable {X:Cx} {pins:List (Addr×Obj)} {σ:St} {H:Hp} {s:Shared} {a:Addr} {kvs:List (Key×V)} {k:Key} {u:Value} {A:Around} {E:Value->Shared->Prop}
theorem QmJ {v:V} {more:List Value} {Q:Value->Shared->Prop} (I:Inv X pins σ H s) (e:H a=some (.dK kvs)) (ry:RelV (kV k) u) (l:valV kvs k=some v) (hm:more=[]∨∃ x,more=[x])
  (h:∀ w' s',Inv X pins σ (upd H a (.dK (Qc5 kvs k))) s'->RelV v w'->Q w' s'):wpAny (model X.prog X.w) A (call (.builtin "dict.pop") (.ref a::u::more)) Q E s:=by
 obtain⟨z,hd,vs,rel,dd⟩:=QgT I.hok e
 obtain⟨w',hw,rw'⟩:=RelO.some_of (v:=v) (o:=valueAt vs k) (by rw [← l]; exact rel.val k)
 have hp:(keyPart u).isSome=true:=by
  cases k with
  | inl i=>obtain⟨t,q⟩:=(show ∃ t,u=Value.int i t from ry); subst q; rfl
  | inr x=>obtain⟨t,q⟩:=(show ∃ t,u=Value.str x t from ry); subst q; rfl
 have ha:argsOk "dict.pop" ⟨.ref a::u::more,[]⟩:=by
  rcases hm with q | ⟨x,q⟩
  ·subst q; exact PySem.F.args_dict_pop_2 _ _
  ·subst q; exact PySem.F.args_dict_pop_3 _ _ _
 refine call_meetsIn PySem.F.slot_dict_pop dd.typeIs PySem.F.entry_dict_pop ha (meets_dict_pop_there (Yi X.prog X.w) a (QhY ry) more hm hp)
  ⟨vs,w',dd,by rw [← rel.length]; exact z,hw,fun h' dd' hs=>h w' _ ?_ rw'⟩
 have he:∃ q,h'.get? a=some q:=let ⟨q,_,_,hq,_⟩:=dd'; ⟨q,hq⟩
 exact QgU I (by rw [e]; exact True.intro) hs he (QgV (Nat.le_trans (QhX kvs k) z) hd (rel.drop k) dd')
end
section
variable {X:Cx} {o i e value:Expr} {pos pos' tpos:Pos} {td ty tv:TE}
end
theorem QhZ {P:Program} {w:World} {H:Hp} (h:Heap) (hb:sysModules<h.objs.size):ObjOk P w H (h.push { cls:=.type "dict",data:=.dict #[] }) h.objs.size (.dK []) :=
 ⟨Nat.zero_le _,beq_eq_false_iff_ne.mpr (Ne.symm (Nat.ne_of_lt hb)),[],.nil,Heap.DictOf.new h⟩
noncomputable def QlX:TE:=fun _ H Q=>∀ p,H p=none->Q (.ref p) (upd H p (.dK []))
section
variable {X:Cx} {pos:Pos}
theorem Qh0:PE X (.Dict [] [] pos) QlX:=fun pins s σ H Q I h =>
 wpAny_Dict_empty ⟨.ref s.heap.objs.size,_,I.laid (a:=s.heap.objs.size) (o:=.dK []) (t':=s.toks) (fun _ _ q=>Heap.get?_push_of_some _ q) (Nat.le_refl _) (QhZ s.heap I.big),rfl,h _ (I.hok.fresh (Nat.le_refl _))⟩
end
section
variable {X:Cx} {pins:List (Addr×Obj)} {σ:St} {H:Hp} {s:Shared} {a:Addr} {y d:V} {u r:Value} {o:Option V} {A:Around} {E:Value->Shared->Prop}
end
section
variable {X:Cx} {o e f:Expr} {apos cpos:Pos} {td ty tx:TE}
end
section
variable {X:Cx} {pins:List (Addr×Obj)} {σ:St} {H:Hp} {s:Shared} {a:Addr} {kvs:List (Key×V)} {A:Around} {E:Value->Shared->Prop}
theorem Qh1 {Q:Value->Shared->Prop} (I:Inv X pins σ H s) (e:Rd H a (.dK kvs)) (h:∀ p s',H p=none->Inv X pins σ (upd H p (.dK kvs)) s'->Q (.ref p) s'):wpAny (model X.prog X.w) A (call (.type "dict") [.ref a]) Q E s:=by
 obtain⟨z,hd,vs,rel,dd⟩:=QlW I.hok e
 refine kt_call_dict hd dd (by rw [← rel.length]; exact z) fun h' dd' hs=>?_
 refine h _ _ (I.hok.fresh (Nat.le_refl _)) (I.laid (a:=s.heap.objs.size) (o:=.dK kvs) (t':=s.toks) (fun b q hq=>?_) (Nat.le_refl _) (QgV z (beq_eq_false_iff_ne.mpr (Ne.symm (Nat.ne_of_lt I.big))) rel dd'))
 exact(hs.2 b (Nat.ne_of_lt (Heap.lt_size hq))).trans (Heap.get?_push_of_some _ hq)
end
section
variable {X:Cx} {pins:List (Addr×Obj)} {σ:St} {H:Hp} {s:Shared} {a:Addr} {y:V} {u:Value} {A:Around} {E:Value->Shared->Prop}
end
end L2
end
section
namespace L3
open PySem
noncomputable abbrev DK:=Sum Int Str
noncomputable def dGet (ks:List (DK×D)) (k:DK):Option D:=(ks.find? fun p=>decide (p.1=k)).map (·.2)
noncomputable def dPut (ks:List (DK×D)) (k:DK) (v:D):List (DK×D):=if (ks.any fun p=>decide (p.1=k))=true then ks.map fun p=>if p.1=k then (p.1,v) else p else ks++[(k,v)]
noncomputable def QaC (ks:List (DK×D)) (k:DK):List (DK×D):=ks.filter fun p=>decide (p.1≠k)
noncomputable def Qj4:ME:=fun _ g=>.ok (.ref g.length) (g++[.dct []])
noncomputable def Qh2 (x:D) (g:G):Res D:=match x with
 | .ref n=>(match g[n]? with
  | some (.dct ks)=>.ok (.ref g.length) (g++[.dct ks])
  | _=>.stuck)
 | _=>.stuck
noncomputable def QeK (o k x:ME):ME:=fun σ g=>(o σ g).bind fun a g1=>match a with
 | .ref n=>(match g1[n]? with
  | some (.dct _)=>(k σ g1).bind fun y g2=>(x σ g2).bind fun z g3=>(match y with
   | .int i=>(match g3[n]? with
    | some (.dct ks)=>.ok ((dGet ks (.inl i)).getD z) g3
    | _=>.stuck)
   | _=>.stuck)
  | _=>.stuck)
 | _=>.stuck
noncomputable def Qh3 (o k:ME):ME:=fun σ g=>(o σ g).bind fun a g1=>match a with
 | .ref n=>(match g1[n]? with
  | some (.dct _)=>(k σ g1).bind fun y g2=>(match y with
   | .int i=>(match g2[n]? with
    | some (.dct ks)=>(match dGet ks (.inl i) with
     | some v=>.ok v (g2.set n (.dct (QaC ks (.inl i))))
     | none=>.stuck)
    | _=>.stuck)
   | _=>.stuck)
  | _=>.stuck)
 | _=>.stuck
noncomputable def QdQ (o k v:ME):MS:=fun σ g=>match v σ g with
 | .ok y g1=>(match o σ g1 with
  | .ok (.ref n) g2=>(match k σ g2 with
   | .ok (.int i) g3=>(match g3[n]? with
    | some (.dct ks)=>if ks.length<SZ then .nx σ (g3.set n (.dct (dPut ks (.inl i) y))) else .stuck
    | _=>.stuck)
   | .raise e g'=>.raise e σ g'
   | _=>.stuck)
  | .raise e g'=>.raise e σ g'
  | _=>.stuck)
 | .raise e g'=>.raise e σ g'
 | .stuck=>.stuck
end L3
end
section
namespace L3
open PySem PySem.Spec PyProof.Rows L2
section
variable {K:PySem.W.Frag} {μ:List Addr} {H:Hp}
theorem KRel.get {kv:List (Key×V)} {ks:List (Key×D)} (r:KRel K μ H kv ks) (k:Key):(valV kv k=none∧dGet ks k=none)∨∃ v d,valV kv k=some v∧dGet ks k=some d∧Den K μ H v d:=by
 unfold KRel at r
 induction r with
 | nil=>exact .inl ⟨rfl,rfl⟩
 | @cons p q ps qs h t ih =>
  obtain⟨h1,h2⟩:=h
  by_cases e:p.1=k
  ·refine .inr ⟨p.2,q.2,QeI e,?_,h2⟩
   unfold dGet; rw [List.find?_cons,decide_eq_true (h1.symm.trans e)]; rfl
  ·have e':dGet (q::qs) k=dGet qs k:=by
    unfold dGet; rw [List.find?_cons,decide_eq_false (fun z=>e (h1.trans z))]
   rw [QeJ e,e']; exact ih
theorem KRel.put {kv:List (Key×V)} {ks:List (Key×D)} {v:V} {d:D} (r:KRel K μ H kv ks) (k:Key) (h:Den K μ H v d):KRel K μ H (putK kv k v) (dPut ks k d):=by
 have ha:(kv.any fun p=>decide (p.1=k))=ks.any fun p=>decide (p.1=k):=by
  unfold KRel at r
  induction r with
  | nil=>rfl
  | cons h t ih=>rw [List.any_cons,List.any_cons,ih,h.1]
 unfold putK dPut
 rw [ha]
 by_cases e:(ks.any fun p=>decide (p.1=k))=true
 ·rw [if_pos e,if_pos e]
  clear ha e
  unfold KRel at r ⊢
  induction r with
  | nil=>exact .nil
  | @cons p q ps qs hp t ih =>
   rw [List.map_cons,List.map_cons]
   refine .cons ?_ ih
   obtain⟨h1,h2⟩:=hp
   by_cases e:p.1=k
   ·rw [if_pos e,if_pos (h1.symm.trans e)]; exact⟨h1,h⟩
   ·rw [if_neg e,if_neg (fun z=>e (h1.trans z))]; exact⟨h1,h2⟩
 ·rw [if_neg e,if_neg e]; exact Paired.snoc r ⟨rfl,h⟩
theorem KRel.drop {kv:List (Key×V)} {ks:List (Key×D)} (r:KRel K μ H kv ks) (k:Key):KRel K μ H (Qc5 kv k) (QaC ks k):=by
 unfold KRel at r ⊢
 unfold Qc5 QaC
 induction r with
 | nil=>exact .nil
 | @cons p q ps qs h t ih =>
  obtain⟨h1,h2⟩:=h
  rw [List.filter_cons,List.filter_cons,← h1]
  by_cases e:decide (p.1≠k)=true
  ·rw [if_pos e,if_pos e]; exact .cons ⟨h1,h2⟩ ih
  ·rw [if_neg e,if_neg e]; exact ih
end
section
variable {X:Cx}
theorem Qh4:MtR X "dict.get" (fun x vs H Q=>∃ a kvs k d,x=.ref a∧vs=[kV k,d]∧H a=some (.dK kvs)∧Q ((valV kvs k).getD d) H):=by
 intro pins s σ H x vs v us Q I rx rv h
 obtain⟨a,kvs,k,d,rfl,rfl,e,q⟩:=h
 cases rx
 cases rv with
 | cons ry r2=>cases r2 with
  | cons rd r3 =>
   cases r3
   obtain⟨z,hd,vs,rel,dd⟩:=QgT I.hok e
   exact call_meetsIn PySem.F.slot_dict_get dd.typeIs PySem.F.entry_dict_get (PySem.F.args_dict_get_3 _ _ _) (meets_dict_get_default (Yi X.prog X.w) a (QhY ry) hd _) ⟨_,dd.mapOf,_,H,I.tok _,(rel.val k).getD rd,q⟩
theorem Qj5:MtR X "dict.pop" (fun x vs H Q=>∃ a kvs k v,x=.ref a∧vs=[kV k]∧H a=some (.dK kvs)∧valV kvs k=some v∧Q v (upd H a (.dK (Qc5 kvs k)))):=by
 intro pins s σ H x vs v us Q I rx rv h
 obtain⟨a,kvs,k,w,rfl,rfl,e,l,q⟩:=h
 cases rx
 obtain⟨u,rfl,ru⟩:=rv.one
 exact QmJ I e ru l (.inl rfl) fun w' s' I' rw'=>⟨_,_,I',rw',q⟩
theorem Qh5:PSet X (fun o i v H Q=>∃ a kvs k,o=.ref a∧i=kV k∧H a=some (.dK kvs)∧kvs.length<sizeLine∧Q (upd H a (.dK (putK kvs k v)))):=by
 intro pins s σ H o i v ov iv u Q I ro ri rv h
 obtain⟨a,kvs,k,rfl,rfl,e,l,q⟩:=h
 cases ro
 obtain⟨z,hd,vs,rel,dd⟩:=QgT I.hok e
 have hz:vs.length≤sizeLine:=by rw [← rel.length]; exact z
 have hl:(putK kvs k v).length≤sizeLine:=by have:=QdP kvs k v; omega
 refine wpAny_setItem_pairs (hsz:=hz) (QhY ri) dd fun h' dd' hs=>?_
 have he:∃ q,h'.get? a=some q:=let ⟨q,_,_,hq,_⟩:=dd'; ⟨q,hq⟩
 exact⟨_,QgU I (by rw [e]; exact True.intro) hs he (QgV hl hd (rel.put k rv) dd'),q⟩
theorem Qfn:Qac X (.type "dict") (fun xs H Q=>∃ a kvs,xs=[.ref a]∧H a=some (.dK kvs)∧∀ p,H p=none->Q (.ref p) (upd H p (.dK kvs))):=by
 intro pins s σ H xs us Q I rv h
 obtain⟨a,kvs,rfl,e,q⟩:=h
 obtain⟨u,rfl,ru⟩:=rv.one
 cases ru
 exact Qh1 I (.inl e) fun p s' hp I'=>⟨.ref p,_,I',rfl,q p hp⟩
end
section
variable {X:Cx} {ca:Nat->Addr} {o e f:Expr} {mo me mf:ME} {p pos apos:Pos}
theorem QlY:PE3 ca X (.Dict [] [] pos) Qj4 :=
 fun pn Φ=>Q7 (Qh0 (X:=xat X ca pn Φ)) fun σ H Q ⟨σ3,g,μ,R,q⟩=>fun t ht=>q _ _ (μ++[t]) (QE ht) (R.g.push ht ⟨[],Qn,.nil⟩) (.ref (by rw [← R.g.len]; simp))
theorem QlZ (hm:X.mg "dict" = none) (he:PE3 ca X e me) (hg:Gl X "dict":=by rfl) (hs:starEach [e] X.env=[(false,eval e X.env)]:=by rfl) (hpl:(backTo pos (starEach [] X.env)).any (·.1)=false:=by rfl) :
  PE3 ca X (.Call (.Name "dict" p) [e] [] pos) (mOp1 Qh2 me) :=
 r_ty (fun _ _=>Qfn) hm boot_dict (fun Φ σ H μ g y d Q r q pp=>by
  unfold Qh2 at pp
  cases q with
  | @ref n t hn =>
   dsimp only at pp
   cases hgn:g[n]? with
   | none=>rw [hgn] at pp; exact pp.elim
   | some ob =>
    rw [hgn] at pp
    obtain⟨t',ht',orp⟩:=r.addr hgn
    rw [hn] at ht'; cases ht'
    cases ob with
    | dct ks=>obtain⟨kv,hH,q⟩:=orp; exact⟨t,kv,rfl,hH,fun l hl=>pp _ _ (μ++[l]) (QE hl) (r.push hl ⟨kv,Qn,q.mono (QE hl)⟩) (.ref (by rw [← r.len]; simp))⟩
    | _=>exact pp.elim
  | _=>exact pp.elim) he hg (by decide) (by decide) hs hpl
theorem Qj6 (ho:PE3 ca X o mo) (he:PE3 ca X e me) (hf:PE3 ca X f mf) (hbase:attributeBase o "get" X.env (eval o X.env)=eval o X.env:=by rfl)
  (hfew:((backTo pos (starEach [e,f] X.env)).all (fun x=>!x.1) && (backToKw pos (keywordEach [] X.env)).all (fun x=>x.1.isSome) && decide ([e,f].length+([]:List Keyword).length+(if ([]:List Keyword).isEmpty then 0 else 1)<30))=true:=by rfl)
  (hline:(apos.endLine == pos.line)=true:=by rfl) (hs:starEach [e,f] X.env=(false,eval e X.env)::starEach [f] X.env:=by rfl) (hs2:starEach [f] X.env=(false,eval f X.env)::starEach [] X.env:=by rfl) (hplain:(backTo pos (starEach [f] X.env)).any (·.1)=false:=by rfl) :
  PE3 ca X (.Call (.Attribute o "get" apos) [e,f] [] pos) (QeK mo me mf) :=
 fun pn Φ=>Q7 (Qjt (X:=xat X ca pn Φ) PySem.F.plainAttrs_dict PySem.F.slot_dict_get PySem.F.type_dict_get Qh4 (ho pn Φ) (YY he (YY hf Qk hs2) hs pn Φ) hbase hfew hline hs hplain) fun σ H Q ⟨σ3,g,μ,R,q⟩=>Q9 (Y1 R q) fun x H1 hQ=>by
  obtain⟨d,g1,μ1,e1,R1,q1,p1⟩:=hQ
  cases q1 with
  | @ref n t hn =>
   dsimp only at p1
   cases hgn:g1[n]? with
   | none=>rw [hgn] at p1; exact p1.elim
   | some ob =>
    rw [hgn] at p1
    obtain⟨t',ht',orp⟩:=R1.g.addr hgn
    rw [hn] at ht'; cases ht'
    cases ob with
    | dct ks0 =>
     obtain⟨kv0,hH0,_⟩:=orp
     dsimp only at p1
     refine⟨.inr (.inr (.inl ⟨rfl,.inl ⟨_,hH0⟩⟩)),σ3,g1,μ1,R1,?_⟩
     unfold Qa mNil
     cases hm:me σ3 g1 with
     | raise _ _=>rw [hm] at p1; exact p1
     | stuck=>rw [hm] at p1; exact p1.elim
     | ok y g2 =>
      rw [hm,Res.bind_ok] at p1
      rw [Res.bind_ok]
      cases hm2:mf σ3 g2 with
      | raise _ _=>rw [hm2] at p1; exact p1
      | stuck=>rw [hm2] at p1; exact p1.elim
      | ok z g3 =>
       rw [hm2,Res.bind_ok] at p1
       rw [Res.bind_ok,Res.bind_ok,Res.bind_ok]
       intro vs H2 μ2 e2 r2 q2
       cases q2 with
       | cons h1 h2=>cases h2 with
        | cons h2 h3 =>
         cases h3
         cases h1 with
         | int i =>
          dsimp only at p1
          cases hg2:g3[n]? with
          | none=>rw [hg2] at p1; exact p1.elim
          | some ob2 =>
           rw [hg2] at p1
           obtain⟨t',ht',orp⟩:=r2.addr hg2
           rw [e2.at hn] at ht'; cases ht'
           cases ob2 with
           | dct ks =>
            obtain⟨kv,hH,qs⟩:=orp
            dsimp only at p1
            refine⟨t,kv,.inl i,_,rfl,rfl,hH,p1 _ _ μ2 e2 r2 ?_⟩
            rcases qs.get (.inl i) with⟨a,b⟩ | ⟨v,d,a,b,c⟩
            ·rw [a,b]; exact h2
            ·rw [a,b]; exact c
           | _=>exact p1.elim
         | _=>exact p1.elim
    | _=>exact p1.elim
  | _=>exact p1.elim
theorem Ql0 (ho:PE3 ca X o mo) (he:PE3 ca X e me) (hbase:attributeBase o "pop" X.env (eval o X.env)=eval o X.env:=by rfl)
  (hfew:((backTo pos (starEach [e] X.env)).all (fun x=>!x.1) && (backToKw pos (keywordEach [] X.env)).all (fun x=>x.1.isSome) && decide ([e].length+([]:List Keyword).length+(if ([]:List Keyword).isEmpty then 0 else 1)<30))=true:=by rfl)
  (hline:(apos.endLine == pos.line)=true:=by rfl) (hs:starEach [e] X.env=(false,eval e X.env)::starEach [] X.env:=by rfl) (hplain:(backTo pos (starEach [] X.env)).any (·.1)=false:=by rfl) :
  PE3 ca X (.Call (.Attribute o "pop" apos) [e] [] pos) (Qh3 mo me) :=
 fun pn Φ=>Q7 (Qjt (X:=xat X ca pn Φ) PySem.F.plainAttrs_dict PySem.F.slot_dict_pop PySem.F.type_dict_pop Qj5 (ho pn Φ) (YY he Qk hs pn Φ) hbase hfew hline hs hplain) fun σ H Q ⟨σ3,g,μ,R,q⟩=>Q9 (Y1 R q) fun x H1 hQ=>by
  obtain⟨d,g1,μ1,e1,R1,q1,p1⟩:=hQ
  cases q1 with
  | @ref n t hn =>
   dsimp only at p1
   cases hgn:g1[n]? with
   | none=>rw [hgn] at p1; exact p1.elim
   | some ob =>
    rw [hgn] at p1
    obtain⟨t',ht',orp⟩:=R1.g.addr hgn
    rw [hn] at ht'; cases ht'
    cases ob with
    | dct ks0 =>
     obtain⟨kv0,hH0,_⟩:=orp
     dsimp only at p1
     refine⟨.inr (.inr (.inl ⟨rfl,.inl ⟨_,hH0⟩⟩)),σ3,g1,μ1,R1,?_⟩
     unfold Qa mNil
     cases hm:me σ3 g1 with
     | raise _ _=>rw [hm] at p1; exact p1
     | stuck=>rw [hm] at p1; exact p1.elim
     | ok y g2 =>
      rw [hm,Res.bind_ok] at p1
      rw [Res.bind_ok,Res.bind_ok]
      intro vs H2 μ2 e2 r2 q2
      cases q2 with
      | cons h1 h2 =>
       cases h2
       cases h1 with
       | int i =>
        dsimp only at p1
        cases hg2:g2[n]? with
        | none=>rw [hg2] at p1; exact p1.elim
        | some ob2 =>
         rw [hg2] at p1
         obtain⟨t',ht',orp⟩:=r2.addr hg2
         rw [e2.at hn] at ht'; cases ht'
         cases ob2 with
         | dct ks =>
          obtain⟨kv,hH,qs⟩:=orp
          dsimp only at p1
          rcases qs.get (.inl i) with⟨a,b⟩ | ⟨v,d,a,b,c⟩
          ·rw [b] at p1; exact p1.elim
          ·rw [b] at p1
           have ex:Ext X.K μ2 H2 μ2 (upd H2 t (.dK (Qc5 kv (.inl i)))):=Jz hH (by intro _ z; cases z) (by intro _ _ z; cases z)
           refine⟨t,kv,.inl i,v,rfl,rfl,hH,a,p1 _ _ μ2 (e2.trans ex) ?_ (c.mono ex)⟩
           exact r2.set (e2.at hn) hH (by intro _ z; cases z) (by intro _ _ z; cases z) ⟨_,Qn,(qs.mono ex).drop _⟩
         | _=>exact p1.elim
       | _=>exact p1.elim
    | _=>exact p1.elim
  | _=>exact p1.elim
theorem Qi6 {i:Expr} {mi:ME} {pos':Pos} (ho:PE3 ca X o mo) (hi:PE3 ca X i mi) (he:PE3 ca X e me) (hs:swapsWithSole [.Subscript o i pos'] e pos.line X.env=pure false:=by rfl)
  (hw:swappedStores [.Subscript o i pos'] e X.env=pure none:=by rfl) (h1:(assignEach [.Subscript o i pos'] X.env).map (·.2)=[assign (.Subscript o i pos') X.env]:=by rfl)
  (ha:∀ v,assign (.Subscript o i pos') X.env v=(do
   let ov ← holding [v] (eval o X.env)
   let iv ← holding [v,ov] (eval i X.env)
   standAt pos'
   holding [v,ov,iv] (setItem ov iv v)
   release [v,ov,iv] []):=by intro _; rfl):PS3 ca X (.Assign [.Subscript o i pos'] e pos) (QdQ mo mi me) :=
 fun pn Φ=>Yk (QfR (X:=xat X ca pn Φ) (he pn Φ) (QiI (X:=xat X ca pn Φ) (ho pn Φ) (hi pn Φ) Qh5 ha) hs hw h1) fun E σ H ⟨σ3,g,μ,R,p⟩=>⟨σ3,g,μ,R,by
  unfold QdQ at p
  cases hm:me σ3 g with
  | ok y g1 =>
   rw [hm] at p
   dsimp only at p
   intro vy H1 μ1 e1 r1 q1
   refine⟨σ3,g1,μ1,R.go e1 r1,?_⟩
   cases hm2:mo σ3 g1 with
   | ok d g2 =>
    rw [hm2] at p
    intro vx H2 μ2 e2 r2 q2
    cases q2 with
    | @ref n a hn =>
     dsimp only at p
     refine⟨σ3,g2,μ2,R.go (e1.trans e2) r2,?_⟩
     cases hm3:mi σ3 g2 with
     | ok di g3 =>
      rw [hm3] at p
      intro vi H3 μ3 e3 r3 q3
      cases q3 with
      | int k =>
       dsimp only at p
       cases hg:g3[n]? with
       | none=>rw [hg] at p; exact p.elim
       | some ob =>
        rw [hg] at p
        obtain⟨a',ha',orp⟩:=r3.addr hg
        rw [e3.at hn] at ha'; cases ha'
        cases ob with
        | dct ks =>
         dsimp only at p
         obtain⟨kv,hH,q⟩:=orp
         by_cases z:ks.length<SZ
         ·rw [if_pos z] at p
          have ex:Ext X.K μ3 H3 μ3 (upd H3 a (.dK (putK kv (.inl k) vy))):=Jz hH (by intro _ z; cases z) (by intro _ _ z; cases z)
          refine⟨a,kv,.inl k,rfl,rfl,hH,by rw [Paired.length q]; exact Nat.lt_of_lt_of_le z JB,?_⟩
          refine p σ _ μ3 (((e1.trans e2).trans e3).trans ex) ((R.go ((e1.trans e2).trans e3) r3).go ex ?_)
          exact r3.set (e3.at hn) hH (by intro _ z; cases z) (by intro _ _ z; cases z) ⟨_,Qn,(q.mono ex).put _ (((q1.mono e2).mono e3).mono ex)⟩
         ·rw [if_neg z] at p; exact p.elim
        | _=>exact p.elim
      | _=>exact p.elim
     | raise _ _=>rw [hm3] at p; exact(RaP.stmt R p).go (e1.trans e2)
     | stuck=>rw [hm3] at p; exact p
    | _=>exact p.elim
   | raise _ _=>rw [hm2] at p; exact(RaP.stmt R p).go e1
   | stuck=>rw [hm2] at p; exact p
  | raise _ _=>rw [hm] at p; exact RaP.stmt R p
  | stuck=>rw [hm] at p; exact p⟩
end
end L3
end
section
namespace L3
open PySem
noncomputable def Yu:List (DK×D)->Option (List Int)
 | []=>some []
 | (.inl i,_)::r=>(Yu r).map (i :: ·)
 | _::_=>none
noncomputable def QdR (x:D) (g:G):Res D:=match x with
 | .ref n=>(match g[n]? with
  | some (.dct ks)=>(match Yu ks with
   | some is=>if is.length≤1000 then .ok (.ref g.length) (g++[.lst (is.map .int)]) else .stuck
   | none=>.stuck)
  | _=>.stuck)
 | _=>.stuck
noncomputable def pDIx (x y:D) (g:G):Res D:=match x,y with
 | .ref n,.int i=>(match g[n]? with
  | some (.dct ks)=>(match dGet ks (.inl i) with
   | some v=>.ok v g
   | none=>.stuck)
  | _=>.stuck)
 | _,_=>.stuck
end L3
end
section
namespace L3
open PySem PySem.Spec PyProof.Rows L2
section
variable {X:Cx}
theorem Qj7 {i:Int} {v:Value} (h:Qdw (.inl i) v=true):∃ t,v=.int i t:=by
 rcases QW h with⟨j,t,e1,e2⟩ | ⟨x,t,e1,e2⟩
 ·cases e1; exact⟨t,e2⟩
 ·cases e1
theorem Qj8 {kvs:List (Key×V)} {vs:List (Key×Value)} (rel:KV kvs vs):kvs.map (·.1)=vs.map (·.1):=by
 unfold KV at rel
 induction rel with
 | nil=>rfl
 | cons h t ih=>rw [List.map_cons,List.map_cons,ih,h.1]
theorem QgW (hc:X.calm=true):Qac X (.type "list") (fun xs H Q=>∃(a:Addr) (kvs:List (Key×V)) (is:List Int),xs=[.ref a]∧H a=some (.dK kvs)∧kvs.map (·.1)=is.map Sum.inl∧∀ l,H l=none->Q (.ref l) (upd H l (.lst (is.map V.int)))):=by
 intro pins s σ H xs us Q I rv h
 obtain⟨a,kvs,is,rfl,e,hk,q⟩:=h
 obtain⟨u,rfl,ru⟩:=rv.one
 cases ru
 obtain⟨z,hd,vs,rel,dd⟩:=QgT I.hok e
 obtain⟨ep,hat⟩:=dd.dictAt
 have hl:vs.length=is.length:=by rw [← rel.length,← List.length_map (f:=fun p:Key×V=>p.1),hk,List.length_map]
 have hkv:kvs.length=is.length:=by rw [rel.length,hl]
 refine PySem.W.kdl_call (PySem.W.kdl_dict (knd:=Yi X.prog X.w) (kvs:=vs) (ep:=ep) hd) (I.ok.hd hc) hat (by rw [← rel.length]; exact z) fun h' tk acc' c' kp hD hacc=>?_
 refine⟨.ref s.heap.objs.size,_,I.laid (a:=s.heap.objs.size) (o:=.lst (is.map V.int)) (t':=tk) kp (Nat.le_refl _) (show ObjOk X.prog X.w _ _ _ (.lst (is.map V.int)) from ⟨by rw [List.length_map,← hkv]; exact z,acc'.toList,c',?_,hD⟩),rfl,q _ (I.hok.fresh (Nat.le_refl _))⟩
 have key:∀(ws:List Value) (js:List Int),ws.length=js.length->(∀(j:Nat) (v:Value) (i:Int),ws[j]?=some v->js[j]?=some i->∃ t,v=Value.int i t)->Vals (js.map V.int) ws:=by
  intro ws
  induction ws with
  | nil=>intro js h1 _; cases js with
   | nil=>exact .nil
   | cons _ _=>cases h1
  | cons w ws ih =>
   intro js h1 h2
   cases js with
   | nil=>cases h1
   | cons i js=>exact .cons (h2 0 w i rfl rfl) (ih js (by simpa using h1) fun j v k a b=>h2 (j+1) v k a b)
 refine key _ _ (by rw [Array.length_toList,hacc.1,hl]) fun j v i hv hi=>?_
 obtain⟨k,x,hx,hkk⟩:=hacc.2 j v (by rw [← Array.getElem?_toList]; exact hv)
 have h1:(vs.map (·.1))[j]?=some k:=by rw [List.getElem?_map,hx]; rfl
 have hkeys:=Qj8 rel
 rw [← hkeys,hk,List.getElem?_map,hi] at h1
 cases h1
 exact Qj7 hkk
theorem Qh6:IxR X (fun x y H Q=>∃ a kvs k v,x=.ref a∧y=kV k∧H a=some (.dK kvs)∧valV kvs k=some v∧Q v H):=by
 intro value slice pins s σ H x y v u Q I rx ry h hs
 obtain⟨a,kvs,k,w,rfl,rfl,e,l,q⟩:=h
 cases rx
 obtain⟨z,hd,vs,rel,dd⟩:=QgT I.hok e
 obtain⟨w',hw,rw'⟩:=RelO.some_of (v:=w) (o:=valueAt vs k) (by rw [← l]; exact rel.val k)
 exact tail_any dd.typeIs PySem.F.slot_dict_getitem.lookup (wpAny_getItem_of (QhY ry) dd.mapOf hw ⟨_,H,I.tok _,rw',q⟩) hs
end
section
variable {X:Cx} {ca:Nat->Addr} {a b e f o:Expr} {ma mb me mf mo:ME} {p pos apos:Pos}
theorem Qh7 {K:PySem.W.Frag}:Y3 K ca (fun x y H Q=>∃ a kvs k v,x=.ref a∧y=kV k∧H a=some (.dK kvs)∧valV kvs k=some v∧Q v H) pDIx:=by
 intro Φ σ H μ g x y dx dy Q r qx qy p
 unfold pDIx at p
 cases qx with
 | @ref n t hn =>
  cases qy with
  | int i =>
   dsimp only at p
   cases hg:g[n]? with
   | none=>rw [hg] at p; exact p.elim
   | some ob =>
    rw [hg] at p
    obtain⟨t',ht',orp⟩:=r.addr hg
    rw [hn] at ht'; cases ht'
    cases ob with
    | dct ks =>
     obtain⟨kv,hH,q⟩:=orp
     dsimp only at p
     rcases q.get (.inl i) with⟨a,b⟩ | ⟨v,d,a,b,c⟩
     ·rw [b] at p; exact p.elim
     ·rw [b] at p
      exact⟨t,kv,.inl i,v,rfl,rfl,hH,a,p v H μ .refl r c⟩
    | _=>exact p.elim
  | _=>exact p.elim
 | _=>cases qy <;> exact p.elim
theorem QmK (ha:PE3 ca X a ma) (hb:PE3 ca X b mb) (hs:Qb2 b:=by exact fun _ _=>rfl):PE3 ca X (.Subscript a b pos) (mOp2 pDIx ma mb):=r_ix (fun _ _=>Qh6) Qh7 ha hb hs
theorem KRel.keys {K:PySem.W.Frag} {μ:List Addr} {H:Hp} {kv:List (Key×V)} {ks:List (Key×D)} (r:KRel K μ H kv ks):kv.map (·.1)=ks.map (·.1):=by
 unfold KRel at r
 induction r with
 | nil=>rfl
 | cons h t ih=>rw [List.map_cons,List.map_cons,ih,h.1]
theorem Qc6:∀ {ks:List (Key×D)} {is:List Int},Yu ks=some is->ks.map (·.1)=is.map Sum.inl
 | [],_,h=>by cases h; rfl
 | (.inl i,_)::r,is,h=>by
  have h:(Yu r).map (i :: ·)=some is:=h
  obtain⟨js,h1,h2⟩:=Option.map_eq_some_iff.mp h
  subst h2
  rw [List.map_cons,List.map_cons,Qc6 h1]
theorem Ql1 (hc:X.calm=true) (hm:X.mg "list" = none) (he:PE3 ca X e me) (hg:Gl X "list":=by rfl) (hs:starEach [e] X.env=[(false,eval e X.env)]:=by rfl) (hpl:(backTo pos (starEach [] X.env)).any (·.1)=false:=by rfl) :
  PE3 ca X (.Call (.Name "list" p) [e] [] pos) (mOp1 QdR me) :=
 r_ty (fun pn Φ=>QgW (X:=xat X ca pn Φ) hc) hm boot_list (fun Φ σ H μ g y d Q r q pp=>by
  unfold QdR at pp
  cases q with
  | @ref n t hn =>
   dsimp only at pp
   cases hgn:g[n]? with
   | none=>rw [hgn] at pp; exact pp.elim
   | some ob =>
    rw [hgn] at pp
    obtain⟨t',ht',orp⟩:=r.addr hgn
    rw [hn] at ht'; cases ht'
    cases ob with
    | dct ks =>
     obtain⟨kv,hH,q⟩:=orp
     dsimp only at pp
     cases hk:Yu ks with
     | none=>rw [hk] at pp; exact pp.elim
     | some is =>
      rw [hk] at pp
      dsimp only at pp
      by_cases z:is.length≤1000
      ·rw [if_pos z] at pp
       have e1:kv.map (·.1)=ks.map (·.1):=q.keys
       exact⟨t,kv,is,rfl,hH,by rw [e1]; exact Qc6 hk,fun l hl=>pp _ _ (μ++[l]) (QE hl) (r.push hl ⟨_,Qn,QdO _⟩) (.ref (by rw [← r.len]; simp))⟩
      ·rw [if_neg z] at pp; exact pp.elim
    | _=>exact pp.elim
  | _=>exact pp.elim) he hg (by decide) (by decide) hs hpl
end
end L3
end
section
namespace L3
open PySem
noncomputable def cP (i j:Int):Prop:=0≤j∧j≤1000∧i.natAbs<1000000
noncomputable instance (i j:Int):Decidable (cP i j):=inferInstanceAs (Decidable (_∧_∧_))
noncomputable def pPow (x y:D) (g:G):Res D:=match x,y with
 | .int i,.int j=>if cP i j then .ok (.int (i ^ j.toNat)) g else .stuck
 | _,_=>.stuck
end L3
end
section
namespace L3
open PySem PySem.Spec PyProof.Rows L2
theorem Ql2 {X:Cx} {ca:Nat->Addr} {a b:Expr} {ma mb:ME} {pos:Pos} (ha:PE3 ca X a ma) (hb:PE3 ca X b mb):PE3 ca X (.BinOp a .Pow b pos) (mOp2 pPow ma mb) :=
 Qfa (fun _ _=>QkW) (QdG (fun Φ σ i j g Q H μ r p=>by
  unfold pPow at p
  by_cases z:cP i j
  ·dsimp only at p; rw [if_pos z] at p; exact⟨⟨z.1,Int.le_trans z.2.1 (by decide),Nat.lt_of_lt_of_le z.2.2 (by decide)⟩,p _ H μ .refl r (.int _)⟩
  ·dsimp only at p; rw [if_neg z] at p; exact p.elim) (JR fun x y g=>by cases x <;> cases y <;> first | exact .inl ⟨_,_,rfl,rfl⟩ | exact .inr rfl)) ha hb
end L3
end
section
namespace L3
open PySem
noncomputable def Qfo:MS:=(mRet (mAnd (mOp1 (ZL .int) (mVar 0)) (mNot (mOp1 (ZL .bool) (mVar 0)))))
noncomputable def Jm:MF:=mDef 1 0 Qfo
noncomputable def Qfp:MS:=(mRet (mAnd (QA Jm (Qa (mVar 0) mNil)) (QbF pLe pLt (mLit (.int 0)) (mVar 0) (mVar 1))))
noncomputable def QL:MF:=mDef 2 0 Qfp
noncomputable def Qfq:MS:=(mSeq (mIf (Qf (mOp2 pIs (mVar 0) (mLit .non))) (mRet (mLit (.bl true))) QB)
 (mSeq (mIf (mOrT (YZ (Qf (mOp1 (ZL .tuple) (mVar 0)))) (Qf (mOp2 pNe (mOp1 pLen (mVar 0)) (mLit (.int 3))))) (mRet (mLit (.bl false))) QB)
 (mRet (mAnd (QA QL (Qa (mOp2 pIx (mVar 0) (mLit (.int 0))) (Qa (mVar 2) mNil))) (mAnd (mOp2 (pIn false) (mOp2 pIx (mVar 0) (mLit (.int 1))) (mOpA pTup (Qa (mLit (.str (Str.ofString "l"))) (Qa (mLit (.str (Str.ofString "r"))) mNil)))) (QA QL (Qa (mOp2 pIx (mVar 0) (mLit (.int 2))) (Qa (mVar 1) mNil))))))))
noncomputable def Yc:MF:=mDef 3 0 Qfq
noncomputable def Q3:MS:=(mSeq (mIf (Qf (mOp2 pNe (mOp1 pLen (mVar 3)) (mVar 2))) QaX QB)
 (mIf (YZ (Qf (mOp1 pAll (Y0 (ZN (mVar 3)) 1 [1,2] (gSet 0) Y2 (QA Yc (Qa (mVar 0) (Qa (mVar 1) (Qa (mVar 2) mNil)))))))) QaX QB))
noncomputable def ZB:MS:=(mSeq (mIf (Qf (mOp2 pEq (mOp1 pLen (mVar 0)) (mLit (.int 0)))) QaX QB)
 (mSeq (mAsg (gSet 1) (mOp1 pLen (mVar 0)))
 (mSeq (mAsg (gSet 2) (mOp1 pLen (mOp2 pIx (mVar 0) (mLit (.int 0)))))
 (mSeq (mIf (Qf (mOp2 pEq (mVar 2) (mLit (.int 0)))) QaX QB)
 (mFor (ZN (mVar 0)) (gSet 3) Q3)))))
noncomputable def ZC:MF:=mDef 1 3 ZB
noncomputable def Ju:MS:=(mSeq (mAsg (gSet 2) (mOp1 Z7 (Y0 (ZN (mVar 1)) 1 [] (gSet 0) Y2 (mOp1 Z7 (mVar 0)))))
 (mSeq (ZA (QA ZC (Qa (mVar 2) mNil)))
 (QN [11,12] (Str.ofString "table") (mVar 0) (mVar 2))))
noncomputable def Zx:MF:=mDef 2 1 Ju
noncomputable def Qbc:MS:=(mRet (mOp1 pLen (QF [11,12] (Str.ofString "table") (mVar 0))))
noncomputable def ZV:MF:=mDef 1 0 Qbc
noncomputable def QbQ:MS:=(mRet (mOp1 pLen (mOp2 pIx (QF [11,12] (Str.ofString "table") (mVar 0)) (mLit (.int 0)))))
noncomputable def YH:MF:=mDef 1 0 QbQ
noncomputable def JG:MS:=(mSeq (QN [11,12] (Str.ofString "table") (mVar 0) (QF [11,12] (Str.ofString "table") (mVar 1)))
 (mSeq (QN [12] (Str.ofString "state") (mVar 0) (mOp2 pIx (mVar 2) (mLit (.int 0))))
 (mSeq (QN [12] (Str.ofString "place") (mVar 0) (mOp2 pIx (mVar 2) (mLit (.int 1))))
 (mSeq (QN [12] (Str.ofString "left_marks") (mVar 0) (Y0 (ZN (mOp2 pIx (mVar 2) (mLit (.int 2)))) 2 [0] (Z6 [(gSet 0),(gSet 1)]) (Qf (mOp2 pLt (mVar 0) (QF [12] (Str.ofString "place") (mVar 2)))) (mOpA pTup (Qa (mVar 0) (Qa (mVar 1) mNil)))))
 (QN [12] (Str.ofString "right_marks") (mVar 0) (Y0 (Qc0 (mOp2 pIx (mVar 2) (mLit (.int 2)))) 2 [0] (Z6 [(gSet 0),(gSet 1)]) (Qf (mOp2 pGe (mVar 0) (QF [12] (Str.ofString "place") (mVar 2)))) (mOpA pTup (Qa (mVar 0) (Qa (mVar 1) mNil)))))))))
noncomputable def YT:MF:=mDef 3 0 JG
noncomputable def Qaj:MS:=(mRet (mAnd (mOp2 pGt (mOp1 pLen (QF [12] (Str.ofString "right_marks") (mVar 0))) (mLit (.int 0))) (mOp2 pEq (mOp2 pIx (mOp2 pIx (QF [12] (Str.ofString "right_marks") (mVar 0)) (mOp1 pNeg (mLit (.int 1)))) (mLit (.int 0))) (QF [12] (Str.ofString "place") (mVar 0)))))
noncomputable def Qy:MF:=mDef 1 0 Qaj
noncomputable def Jb:MS:=(mSeq (mAsg (gSet 1) (mIfE (Qf (Z8 12 (Str.ofString "is_on_mark") Qy (mVar 0) mNil)) (mOp2 pIx (mOp2 pIx (QF [12] (Str.ofString "right_marks") (mVar 0)) (mOp1 pNeg (mLit (.int 1)))) (mLit (.int 1))) (mLit (.int 0))))
 (mRet (mOp2 pIx (mOp2 pIx (QF [11,12] (Str.ofString "table") (mVar 0)) (QF [12] (Str.ofString "state") (mVar 0))) (mVar 1))))
noncomputable def Yx:MF:=mDef 1 1 Jb
noncomputable def Z2:MS:=(mSeq (mIf (Qf (Z8 12 (Str.ofString "is_on_mark") Qy (mVar 0) mNil)) (ZA (mOp1 pPop (QF [12] (Str.ofString "right_marks") (mVar 0)))) QB)
 (mIf (Qf (mOp2 pNe (mVar 1) (mLit (.int 0)))) (ZA (ZO (QF [12] (Str.ofString "right_marks") (mVar 0)) (mOpA pTup (Qa (QF [12] (Str.ofString "place") (mVar 0)) (Qa (mVar 1) mNil))))) QB))
noncomputable def Yy:MF:=mDef 2 0 Z2
noncomputable def Yp:MS:=(mSeq (mIf (Qf (Z8 12 (Str.ofString "is_on_mark") Qy (mVar 0) mNil)) (ZA (ZO (QF [12] (Str.ofString "left_marks") (mVar 0)) (mOp1 pPop (QF [12] (Str.ofString "right_marks") (mVar 0))))) QB)
 (QN [12] (Str.ofString "place") (mVar 0) (mOp2 pAdd (QF [12] (Str.ofString "place") (mVar 0)) (mLit (.int 1)))))
noncomputable def ZR:MF:=mDef 1 0 Yp
noncomputable def YD:MS:=(mSeq (QN [12] (Str.ofString "place") (mVar 0) (mOp2 pSub (QF [12] (Str.ofString "place") (mVar 0)) (mLit (.int 1))))
 (mIf (Qbw (Qf (mOp2 pGt (mOp1 pLen (QF [12] (Str.ofString "left_marks") (mVar 0))) (mLit (.int 0)))) (Qf (mOp2 pEq (mOp2 pIx (mOp2 pIx (QF [12] (Str.ofString "left_marks") (mVar 0)) (mOp1 pNeg (mLit (.int 1)))) (mLit (.int 0))) (QF [12] (Str.ofString "place") (mVar 0))))) (ZA (ZO (QF [12] (Str.ofString "right_marks") (mVar 0)) (mOp1 pPop (QF [12] (Str.ofString "left_marks") (mVar 0))))) QB))
noncomputable def Z0:MF:=mDef 1 0 YD
noncomputable def Zy:MS:=(mSeq (mAsg (gSet 1) (Z8 12 (Str.ofString "entry") Yx (mVar 0) mNil))
 (mSeq (mIf (Qf (mOp2 pIs (mVar 1) (mLit .non))) (mRet (mLit (.bl false))) QB)
 (mSeq (ZA (Z8 12 (Str.ofString "write") Yy (mVar 0) (Qa (mOp2 pIx (mVar 1) (mLit (.int 0))) mNil)))
 (mSeq (mIf (Qf (mOp2 pEq (mOp2 pIx (mVar 1) (mLit (.int 1))) (mLit (.str (Str.ofString "r"))))) (ZA (Z8 12 (Str.ofString "go_right") ZR (mVar 0) mNil)) (ZA (Z8 12 (Str.ofString "go_left") Z0 (mVar 0) mNil)))
 (mSeq (QN [12] (Str.ofString "state") (mVar 0) (mOp2 pIx (mVar 1) (mLit (.int 2))))
 (mRet (mLit (.bl true))))))))
noncomputable def QI:MF:=mDef 1 1 Zy
noncomputable def YU:MS:=(mAsg (gSet 2) (mOp2 pAdd (mVar 2) (mLit (.int 1))))
noncomputable def Qak:MS:=(mSeq (mAsg (gSet 2) (mLit (.int 0)))
 (mSeq (QbG (Qbw (Qf (mOp2 pLt (mVar 2) (mVar 1))) (Qf (Z8 12 (Str.ofString "stepped") QI (mVar 0) mNil))) YU)
 (mRet (mVar 2))))
noncomputable def Qal:MF:=mDef 2 1 Qak
noncomputable def QdS:MS:=(mRet (mOpA pTup (Qa (QF [12] (Str.ofString "state") (mVar 0)) (Qa (QF [12] (Str.ofString "place") (mVar 0)) (Qa (mOp2 pAdd (mOp1 Z7 (QF [12] (Str.ofString "left_marks") (mVar 0))) (mOp1 YG (QF [12] (Str.ofString "right_marks") (mVar 0)))) mNil)))))
noncomputable def JI:MF:=mDef 1 0 QdS
noncomputable def Qw:MS:=(mIf (mOrT (YZ (Qf (QA QL (Qa (mVar 5) (Qa (mVar 3) mNil))))) (Qf (mOp2 pEq (mVar 5) (mLit (.int 0))))) (QcO 4 (Qa (mLit (.str (Str.ofString "a mark's sign is one of the machine's, and not the blank"))) mNil)) QB)
noncomputable def QS:MS:=(mIf (Qf (mOp2 pGe (mOp2 pIx (mVar 6) (mLit (.int 0))) (mOp2 pIx (mVar 7) (mLit (.int 0))))) (QcO 4 (Qa (mLit (.str (Str.ofString "the places of the marks rise"))) mNil)) QB)
noncomputable def Z3:MS:=(mSeq (mIf (YZ (Qf (QA QL (Qa (mOp2 pIx (mVar 1) (mLit (.int 0))) (Qa (QA ZV (Qa (mVar 0) mNil)) mNil))))) (QcO 4 (Qa (mLit (.str (Str.ofString "the state is not the machine's"))) mNil)) QB)
 (mSeq (mAsg (gSet 2) (mOp2 pIx (mVar 1) (mLit (.int 2))))
 (mSeq (mAsg (gSet 3) (QA YH (Qa (mVar 0) mNil)))
 (mSeq (mFor (ZN (mVar 2)) (Z6 [(gSet 4),(gSet 5)]) Qw)
 (mFor (QaZ (mVar 2) (Qa0 (mVar 2) (QcR (mLit (.int 1))) Jy)) (Z6 [(gSet 6),(gSet 7)]) QS)))))
noncomputable def ZD:MF:=mDef 2 6 Z3
noncomputable def Z4:MS:=(mSeq (ZA (QA ZD (Qa (mVar 0) (Qa (mVar 1) mNil))))
 (mSeq (mAsg (gSet 3) (QcP 12 YT (Qa (mVar 0) (Qa (mVar 1) mNil))))
 (mSeq (mAsg (gSet 4) (Z8 12 (Str.ofString "run") Qal (mVar 3) (Qa (mVar 2) mNil)))
 (mRet (mOpA pTup (Qa (Z8 12 (Str.ofString "shot") JI (mVar 3) mNil) (Qa (mVar 4) mNil)))))))
noncomputable def Qz:MF:=mDef 3 2 Z4
noncomputable def Qj9:MS:=(mRet (QA Qz (Qa (mVar 0) (Qa (mLit (.tup [(.int 0),(.int 0),(.tup [])])) (Qa (mVar 1) mNil)))))
noncomputable def QdT:MF:=mDef 2 0 Qj9
noncomputable def Qco:MS:=(mSeq (QcQ (mVar 1) (mLit (.int 0)) (mOp2 pAdd (mOp2 pIx (mVar 1) (mLit (.int 0))) (mLit (.int 1))))
 (mSeq (mAsg (gSet 2) (mLit (.int 0)))
 (mSeq (mIf (Qf (mOp2 pGt (mOp1 pLen (mVar 0)) (mLit (.int 0)))) (mAsg (gSet 2) (mOp2 pIx (mVar 0) (mOp2 pMod (mOp2 pIx (mVar 1) (mLit (.int 0))) (mOp1 pLen (mVar 0))))) QB)
 (mSeq (mAsg (gSet 3) (mOp2 pMod (mOp2 pMul (mOp2 pAdd (mOp2 pAdd (mOp2 pMod (mVar 2) (mLit (.int 2147483647))) (mOp2 pMul (mOp2 pMul (mOp2 pIx (mVar 1) (mLit (.int 0))) (mOp2 pIx (mVar 1) (mLit (.int 0)))) (mLit (.int 7919)))) (mLit (.int 11))) (mLit (.int 48271))) (mLit (.int 2147483647))))
 (mRet (mOp2 pMod (mOp2 pMul (mVar 3) (mVar 3)) (mLit (.int 1999999973))))))))
noncomputable def Yb:MF:=mDef 2 2 Qco
noncomputable def JW (me:MF):MS:=(mSeq (mIf (Qf (mOp1 (ZL .dict) (mVar 1))) (mSeq (mIf (mOrT (YZ (Qf (mOp1 (ZL .dict) (mVar 0)))) (Qf (mOp2 pNe (mOp1 pLen (mVar 0)) (mOp1 pLen (mVar 1))))) (mRet (mLit (.bl false))) QB)
 (mRet (mOp1 pAll (Y0 (ZN (mVar 1)) 1 [0,1] (gSet 0) Y2 (mAnd (mOp2 (pIn false) (mVar 0) (mVar 1)) (QA me (Qa (mOp2 pIx (mVar 1) (mVar 0)) (Qa (mOp2 pIx (mVar 2) (mVar 0)) mNil)))))))) QB)
 (mSeq (mIf (mOrT (Qf (mOp1 (ZL .list) (mVar 1))) (Qf (mOp1 (ZL .tuple) (mVar 1)))) (mSeq (mIf (mOrT (Qf (mOp2 pNe (mOp1 (ZL .list) (mVar 0)) (mOp1 (ZL .list) (mVar 1)))) (Qf (mOp2 pNe (mOp1 (ZL .tuple) (mVar 0)) (mOp1 (ZL .tuple) (mVar 1))))) (mRet (mLit (.bl false))) QB)
 (mRet (mAnd (mOp2 pEq (mOp1 pLen (mVar 0)) (mOp1 pLen (mVar 1))) (mOp1 pAll (Y0 (QaZ (mVar 0) (mVar 1)) 2 [] (Z6 [(gSet 0),(gSet 1)]) Y2 (QA me (Qa (mVar 0) (Qa (mVar 1) mNil)))))))) QB)
 (mSeq (mIf (Qf (mOp1 (ZL .str) (mVar 1))) (mRet (mAnd (mOp1 (ZL .str) (mVar 0)) (mOp2 pEq (mVar 0) (mVar 1)))) QB)
 (mRet (mAnd (mOp1 (ZL .int) (mVar 0)) (mAnd (mNot (mOp1 (ZL .bool) (mVar 0))) (mOp2 pEq (mVar 0) (mVar 1))))))))
noncomputable def Zz:Nat->MF
 | 0=>fun _ _=>.stuck
 | k+1=>mDef 2 0 (JW (Zz k))
noncomputable def Zo:MS:=(mSeq (mAsg (gSet 8) (QA Yb (Qa (mVar 0) (Qa (mVar 1) mNil))))
 (mSeq (mAsg (gSet 9) (mOpA pTup (Qa (mOp2 pMod (mOp2 Z1 (mVar 8) (mLit (.int 9))) (mVar 3)) (Qa (mOp2 pIx (mLit (.str (Str.ofString "lr"))) (mOp2 pMod (mOp2 Z1 (mVar 8) (mLit (.int 100))) (mLit (.int 2)))) (Qa (mOp2 pMod (mOp2 Z1 (mVar 8) (mLit (.int 300))) (mVar 2)) mNil)))))
 (mSeq (mIf (Qf (mOp2 pEq (mOp2 pMod (mVar 8) (mLit (.int 9))) (mLit (.int 0)))) (mAsg (gSet 9) (mLit .non)) QB)
 (ZA (ZO (mVar 6) (mVar 9))))))
noncomputable def Yz:MS:=(mSeq (mAsg (gSet 6) (mOpA newL mNil))
 (mSeq (mFor (Zm (mVar 3)) (gSet 7) Zo)
 (ZA (ZO (mVar 4) (mVar 6)))))
noncomputable def Qbd:MS:=(mSeq (mAsg (gSet 4) (mOpA newL mNil))
 (mSeq (mFor (Zm (mVar 2)) (gSet 5) Yz)
 (mRet (mVar 4))))
noncomputable def Qbe:MF:=mDef 4 6 Qbd
noncomputable def Jn:MS:=(mSeq (mAsg (Z6 [(gSet 2),(gSet 3),(gSet 4)]) (mVar 1))
 (mSeq (mAsg (gSet 5) (mOp2 pIx (mOp2 pIx (mVar 0) (mVar 2)) (QeK (mVar 4) (mVar 3) (mLit (.int 0)))))
 (mSeq (mIf (Qf (mOp2 pIs (mVar 5) (mLit .non))) (mRet (mLit .non)) QB)
 (mSeq (mAsg (gSet 6) (mOp1 Qh2 (mVar 4)))
 (mSeq (QdQ (mVar 6) (mVar 3) (mOp2 pIx (mVar 5) (mLit (.int 0))))
 (mSeq (mIf (Qf (mOp2 pEq (mOp2 pIx (mVar 5) (mLit (.int 0))) (mLit (.int 0)))) (ZA (Qh3 (mVar 6) (mVar 3))) QB)
 (mSeq (mIf (Qf (mOp2 pEq (mOp2 pIx (mVar 5) (mLit (.int 1))) (mLit (.str (Str.ofString "r"))))) (mRet (mOpA pTup (Qa (mOp2 pIx (mVar 5) (mLit (.int 2))) (Qa (mOp2 pAdd (mVar 3) (mLit (.int 1))) (Qa (mVar 6) mNil))))) QB)
 (mRet (mOpA pTup (Qa (mOp2 pIx (mVar 5) (mLit (.int 2))) (Qa (mOp2 pSub (mVar 3) (mLit (.int 1))) (Qa (mVar 6) mNil))))))))))))
noncomputable def Jo:MF:=mDef 2 5 Jn
noncomputable def Qcp:MS:=(mSeq (mAsg (Z6 [(gSet 1),(gSet 2),(gSet 3)]) (mVar 0))
 (mRet (mOpA pTup (Qa (mVar 1) (Qa (mVar 2) (Qa (mOp1 Z7 (Y0 (ZN (mOp1 JE (mOp1 QdR (mVar 3)))) 1 [3] (gSet 0) Y2 (mOpA pTup (Qa (mVar 0) (Qa (mOp2 pDIx (mVar 1) (mVar 0)) mNil))))) mNil))))))
noncomputable def QaM:MF:=mDef 1 3 Qcp
noncomputable def Zs:MS:=(mSeq (mAsg (gSet 1) (QA Jo (Qa (mVar 0) (Qa (mVar 1) mNil))))
 (mSeq (mIf (Qf (mOp2 pIs (mVar 1) (mLit .non))) (mRet (mVar 3)) QB)
 (ZA (ZO (mVar 3) (mVar 1)))))
noncomputable def QdU:MS:=(mSeq (mAsg (gSet 3) (mOpA newL (Qa (mVar 1) mNil)))
 (mSeq (QbG (Qf (mOp2 pLe (mOp1 pLen (mVar 3)) (mVar 2))) Zs)
 (mRet (mVar 3))))
noncomputable def QdV:MF:=mDef 3 1 QdU
noncomputable def ZE:MS:=(mSeq (mAsg (gSet 8) (mOp2 pMod (QA Yb (Qa (mVar 0) (Qa (mVar 1) mNil))) (mVar 3)))
 (mIf (Qf (mOp2 pGt (mVar 8) (mLit (.int 0)))) (QdQ (mVar 6) (mOp2 pSub (mOp2 pAdd (mVar 5) (mVar 7)) (mLit (.int 6))) (mVar 8)) QB))
noncomputable def Qbf:MS:=(mSeq (mAsg (gSet 4) (QA Yb (Qa (mVar 0) (Qa (mVar 1) mNil))))
 (mSeq (mAsg (gSet 5) (mOp2 pAdd (mOp2 pIx (mOpA newL (Qa (mLit (.int 0)) (Qa (mLit (.int 3)) (Qa (mOp1 pNeg (mLit (.int 7))) (Qa (mOp2 pPow (mLit (.int 10)) (mLit (.int 50))) (Qa (mOp1 pNeg (mOp2 pPow (mLit (.int 10)) (mLit (.int 50)))) mNil)))))) (mOp2 pMod (mVar 4) (mLit (.int 5)))) (mOp2 pMod (mOp2 Z1 (mVar 4) (mLit (.int 5))) (mLit (.int 9)))))
 (mSeq (mAsg (gSet 6) Qj4)
 (mSeq (mFor (Zm (mOp2 pMod (mOp2 Z1 (mVar 4) (mLit (.int 45))) (mLit (.int 13)))) (gSet 7) ZE)
 (mRet (mOpA pTup (Qa (mOp2 pMod (mOp2 Z1 (mVar 4) (mLit (.int 600))) (mVar 2)) (Qa (mVar 5) (Qa (mVar 6) mNil)))))))))
noncomputable def Qbg:MF:=mDef 4 5 Qbf
noncomputable def Qbh:MS:=(mSeq (mAsg (Z6 [(gSet 4),(gSet 5),(gSet 6)]) (mVar 1))
 (mSeq (mAsg (gSet 7) (mOp1 QhE (mVar 6)))
 (mSeq (mIf (Qf (mOp2 pEq (mOp2 pMod (mVar 0) (mLit (.int 6))) (mLit (.int 0)))) (mRet (mOpA pTup (Qa (mOp2 pAdd (mVar 2) (mOp2 pMod (mOp2 Z1 (mVar 0) (mLit (.int 6))) (mLit (.int 3)))) (Qa (mVar 5) (Qa (mVar 6) mNil))))) QB)
 (mSeq (mIf (Qf (mOp2 pEq (mOp2 pMod (mVar 0) (mLit (.int 6))) (mLit (.int 1)))) (mRet (mOpA pTup (Qa (mOp1 pNeg (mLit (.int 1))) (Qa (mVar 5) (Qa (mVar 6) mNil))))) QB)
 (mSeq (mAsg (gSet 8) (mOp2 pAdd (mVar 5) (mLit (.int 20))))
 (mSeq (mIf (Qf (mOp2 pEq (mOp2 pMod (mVar 0) (mLit (.int 6))) (mLit (.int 2)))) (mRet (mOpA pTup (Qa (mVar 4) (Qa (mVar 5) (Qa (mOp2 pAdd (mVar 6) (mOpA pTup (Qa (mOpA pTup (Qa (mVar 8) (Qa (mLit (.int 0)) mNil))) mNil))) mNil))))) QB)
 (mSeq (mIf (Qf (mOp2 pEq (mOp2 pMod (mVar 0) (mLit (.int 6))) (mLit (.int 3)))) (mRet (mOpA pTup (Qa (mVar 4) (Qa (mVar 5) (Qa (mOp2 pAdd (mVar 6) (mOpA pTup (Qa (mOpA pTup (Qa (mVar 8) (Qa (mVar 3) mNil))) mNil))) mNil))))) QB)
 (mSeq (mIf (Qf (mOp2 pEq (mOp2 pMod (mVar 0) (mLit (.int 6))) (mLit (.int 4)))) (mRet (mOpA pTup (Qa (mVar 4) (Qa (mVar 5) (Qa (mOp2 pAdd (mVar 6) (mOpA pTup (Qa (mOpA pTup (Qa (mVar 8) (Qa (mLit (.int 1)) mNil))) (Qa (mOpA pTup (Qa (mVar 8) (Qa (mLit (.int 1)) mNil))) mNil)))) mNil))))) QB)
 (mRet (mOpA pTup (Qa (mVar 4) (Qa (mVar 5) (Qa (mOp2 pAdd (mOp2 pAdd (mOpA pTup (Qa (mOpA pTup (Qa (mOp2 pAdd (mVar 8) (mLit (.int 1))) (Qa (mLit (.int 1)) mNil))) mNil)) (mVar 6)) (mOpA pTup (Qa (mOpA pTup (Qa (mVar 8) (Qa (mLit (.int 1)) mNil))) mNil))) mNil)))))))))))))
noncomputable def JX:MF:=mDef 4 5 Qbh
noncomputable def JJ:MS:=(mSeq (mAsg (gSet 2) (mLit .non))
 (mSeq (mTry (ZA (QA Qz (Qa (mVar 0) (Qa (mVar 1) (Qa (mLit (.int 3)) mNil))))) [⟨[0,1,2,3,4,5,6,7,8,9,10],[],some 3,(mAsg (gSet 2) (mVar 3))⟩])
 (mSeq (mIf (mOrT (Qf (mOp2 pIs (mVar 2) (mLit .non))) (mOrT (Qf (mOp1 (Zn [0,1,2,3,4,5,6,7,8,9,10] [1]) (mVar 2))) (mOrT (Qf (mOp1 (Zn [0,1,2,3,4,5,6,7,8,9,10] [8]) (mVar 2))) (Qf (mOp1 (Zn [0,1,2,3,4,5,6,7,8,9,10] [3]) (mVar 2)))))) (mRet (mLit (.bl false))) QB)
 (mSeq (mIf (mOrT (Qf (mOp1 (Zn [0,1,2,3,4,5,6,7,8,9,10] [7]) (mVar 2))) (mOrT (Qf (mOp1 (Zn [0,1,2,3,4,5,6,7,8,9,10] [2]) (mVar 2))) (Qf (mOp1 (Zn [0,1,2,3,4,5,6,7,8,9,10] [5]) (mVar 2))))) (mRet (mLit (.bl false))) QB)
 (mSeq (mIf (mOrT (Qf (mOp1 (Zn [0,1,2,3,4,5,6,7,8,9,10] [10]) (mVar 2))) (mOrT (Qf (mOp1 (Zn [0,1,2,3,4,5,6,7,8,9,10] [9]) (mVar 2))) (Qf (mOp1 (Zn [0,1,2,3,4,5,6,7,8,9,10] [6]) (mVar 2))))) (mRet (mLit (.bl false))) QB)
 (mRet (mAnd (mOp1 (Zn [0,1,2,3,4,5,6,7,8,9,10] [4]) (mVar 2)) (mOp1 (Zn [0,1,2,3,4,5,6,7,8,9,10] [0,1,2,3,4,5,6,7,8,9,10]) (mVar 2)))))))))
noncomputable def JK:MF:=mDef 2 2 JJ
noncomputable def QaN:MS:=(mSeq (mAsg (gSet 3) (QA Yb (Qa (mVar 0) (Qa (mVar 1) mNil))))
 (mSeq (mAsg (gSet 4) (QA Qbe (Qa (mVar 0) (Qa (mVar 1) (Qa (mOp2 pAdd (mLit (.int 1)) (mOp2 pMod (mVar 3) (mLit (.int 5)))) (Qa (mOp2 pAdd (mLit (.int 2)) (mOp2 pMod (mOp2 Z1 (mVar 3) (mLit (.int 5))) (mLit (.int 3)))) mNil))))))
 (mSeq (mAsg (gSet 5) (QcP 11 Zx (Qa (mVar 4) mNil)))
 (mSeq (mAsg (gSet 6) (QA Qbg (Qa (mVar 0) (Qa (mVar 1) (Qa (mOp1 pLen (mVar 4)) (Qa (mOp1 pLen (mOp2 pIx (mVar 4) (mLit (.int 0)))) mNil))))))
 (mSeq (mAsg (gSet 7) (mOp2 pMod (mOp2 Z1 (mVar 3) (mLit (.int 15))) (mLit (.int 41))))
 (mSeq (mAsg (gSet 8) (mOp2 pMod (mOp2 Z1 (mVar 3) (mLit (.int 615))) (mLit (.int 41))))
 (mSeq (mAsg (gSet 9) (QA QdV (Qa (mVar 4) (Qa (mVar 6) (Qa (mOp2 pAdd (mVar 7) (mVar 8)) mNil)))))
 (mSeq (mAsg (gSet 10) (mOpA pTup (Qa (QA QaM (Qa (mOp2 pIx (mVar 9) (mOp2 pSub (mOp1 pLen (mVar 9)) (mLit (.int 1)))) mNil)) (Qa (mOp2 pSub (mOp1 pLen (mVar 9)) (mLit (.int 1))) mNil))))
 (mSeq (mAsg (gSet 11) (QA QaM (Qa (mVar 6) mNil)))
 (mSeq (mIf (YZ (Qf (QA (Zz 6) (Qa (QA Qz (Qa (mVar 5) (Qa (mVar 11) (Qa (mOp2 pAdd (mVar 7) (mVar 8)) mNil)))) (Qa (mVar 10) mNil))))) (mRet (mLit (.bl false))) QB)
 (mSeq (mAsg (gSet 12) (QA Qz (Qa (mVar 5) (Qa (mVar 11) (Qa (mVar 7) mNil)))))
 (mSeq (mAsg (gSet 13) (QA Qz (Qa (mVar 5) (Qa (mOp2 pIx (mVar 12) (mLit (.int 0))) (Qa (mVar 8) mNil)))))
 (mSeq (mIf (YZ (Qf (QA (Zz 6) (Qa (mOpA pTup (Qa (mOp2 pIx (mVar 13) (mLit (.int 0))) (Qa (mOp2 pAdd (mOp2 pIx (mVar 12) (mLit (.int 1))) (mOp2 pIx (mVar 13) (mLit (.int 1)))) mNil))) (Qa (mVar 10) mNil))))) (mRet (mLit (.bl false))) QB)
 (mSeq (mIf (YZ (Qf (QA (Zz 6) (Qa (QA Qz (Qa (mVar 5) (Qa (mOpA pTup (Qa (mLit (.int 0)) (Qa (mLit (.int 0)) (Qa (mOpA pTup mNil) mNil)))) (Qa (mVar 7) mNil)))) (Qa (QA QdT (Qa (mVar 5) (Qa (mVar 7) mNil))) mNil))))) (mRet (mLit (.bl false))) QB)
 (mSeq (mIf (YZ (Qf (QA JK (Qa (mVar 5) (Qa (QA JX (Qa (QA Yb (Qa (mVar 0) (Qa (mVar 1) mNil))) (Qa (mVar 11) (Qa (mOp1 pLen (mVar 4)) (Qa (mOp1 pLen (mOp2 pIx (mVar 4) (mLit (.int 0)))) mNil))))) mNil))))) (mRet (mLit (.bl false))) QB)
 (mIf (YZ (Qf (QA (Zz 6) (Qa (QA Qz (Qa (mVar 5) (Qa (mVar 11) (Qa (mOp2 pAdd (mVar 7) (mVar 8)) mNil)))) (Qa (mVar 10) mNil))))) (mRet (mLit (.bl false))) QB))))))))))))))))
noncomputable def Qka:MS:=(mSeq (mAsg (gSet 1) (mOpA newL (Qa (mLit (.int 0)) mNil)))
 (mSeq (mFor (Zm (mOp2 pAdd (mLit (.int 1)) (mOp2 Z1 (mOp1 pLen (Qa0 (mVar 0) Jy (QcR (mLit (.int 60))))) (mLit (.int 30))))) (gSet 2) QaN)
 (mRet (mLit (.bl true)))))
noncomputable def Qh8:MF:=mDef 1 13 Qka
end L3
end
section
namespace L3
open PySem
structure Keeps (S:List Nat) (g g':G):Prop where
 len:g.length≤g'.length
 at':∀ n o,n∉S->g[n]?=some o->g'[n]?=some o
theorem Keeps.refl {S:List Nat} {g:G}:Keeps S g g:=⟨Nat.le_refl _,fun _ _ _ h=>h⟩
theorem Keeps.trans {S:List Nat} {g g1 g2:G} (a:Keeps S g g1) (b:Keeps S g1 g2):Keeps S g g2:=⟨Nat.le_trans a.len b.len,fun n o h e=>b.at' n o h (a.at' n o h e)⟩
theorem Keeps.mono {S T:List Nat} {g g1:G} (a:Keeps S g g1) (h:∀ n∈S,n∈T):Keeps T g g1:=⟨a.len,fun n o q e=>a.at' n o (fun z=>q (h n z)) e⟩
theorem Keeps.all {S:List Nat} {g g1:G} (a:Keeps [] g g1):Keeps S g g1:=a.mono (by simp)
theorem Keeps.push {S:List Nat} {g:G} (o:GO):Keeps S g (g++[o]):=⟨by simp,fun n u _ e=>by
 have hl:n<g.length:=(List.getElem?_eq_some_iff.mp e).1
 rw [List.getElem?_append_left hl]; exact e⟩
theorem Keeps.set {g:G} (n:Nat) (o:GO):Keeps [n] g (g.set n o):=⟨by simp,fun m u h e=>by
 rw [List.getElem?_set_ne (fun z=>h (by simp [z]))]; exact e⟩
structure KeepsN (k:Nat) (S:List Nat) (g g':G):Prop where
 len:g.length≤g'.length
 at':∀ n o,n<k->n∉S->g[n]?=some o->g'[n]?=some o
theorem Zb {g:G} (o:GO):(g++[o])[g.length]?=some o:=by simp
theorem ZF {g:G} {n:Nat} {o:GO} (h:g[n]?=some o):n<g.length:=(List.getElem?_eq_some_iff.mp h).1
theorem Q4 {g:G} {n:Nat} {o u:GO} (h:g[n]?=some o):(g.set n u)[n]?=some u:=by rw [List.getElem?_set_self (ZF h)]
noncomputable def Qh9:Out->Prop
 | .rt _ _=>True
 | .raise _ _ _=>True
 | .stuck=>True
 | _=>False
theorem JY {src:Src} {t:MG} {body:MS} {n:Nat} (I:Nat->S3->G->Prop) (R:Out->Prop)
  (step:∀ i σ g,i<n->I i σ g->∃ d σ1,src.at' g i=some (some d)∧t d σ=some σ1∧((∃ σ2 g2,(body σ1 g=.nx σ2 g2∨body σ1 g=.ct σ2 g2)∧I (i+1) σ2 g2)∨(Qh9 (body σ1 g)∧R (body σ1 g))))
  (stop:∀ σ g,I n σ g->src.at' g n=some none):∀(f i:Nat) (σ:S3) (g:G),n - i<f->i≤n->I i σ g->(∃ σ' g',forL src t body f i σ g=.nx σ' g'∧I n σ' g')∨(Qh9 (forL src t body f i σ g)∧R (forL src t body f i σ g))
 | 0,_,_,_,h,_,_=>by omega
 | f+1,i,σ,g,hf,hi,h=>by
  unfold forL
  by_cases e:i=n
  ·subst e
   rw [stop σ g h]
   exact .inl ⟨σ,g,rfl,h⟩
  ·obtain⟨d,σ1,h1,h2,h3⟩:=step i σ g (by omega) h
   rw [h1]
   dsimp only
   rw [h2]
   dsimp only
   rcases h3 with⟨σ2,g2,h3 | h3,h4⟩ | ⟨h3,h4⟩
   ·rw [h3]; exact JY I R step stop f (i+1) σ2 g2 (by omega) (by omega) h4
   ·rw [h3]; exact JY I R step stop f (i+1) σ2 g2 (by omega) (by omega) h4
   ·cases hb:body σ1 g with
    | rt d g'=>rw [hb] at h4; exact .inr ⟨trivial,h4⟩
    | raise x σ' g'=>rw [hb] at h4; exact .inr ⟨trivial,h4⟩
    | nx _ _=>rw [hb] at h3; exact h3.elim
    | bk _ _=>rw [hb] at h3; exact h3.elim
    | ct _ _=>rw [hb] at h3; exact h3.elim
    | stuck=>rw [hb] at h4; exact .inr ⟨trivial,h4⟩
theorem JZ {t:MG} {body:MS} {lo:Int} {n:Nat} {σ:S3} {g:G} (I:Nat->S3->G->Prop) (h0:I 0 σ g)
  (step:∀ i σ g,i<n->I i σ g->∃ σ1 σ2 g2,t (.int (lo+i)) σ=some σ1∧body σ1 g=.nx σ2 g2∧I (i+1) σ2 g2):∃ σ' g',forL (ZZ lo n) t body (n+1) 0 σ g=.nx σ' g'∧I n σ' g':=by
 have:=JY (src:=ZZ lo n) (t:=t) (body:=body) (n:=n) I (fun _=>False) (fun i σ g hi h=>by
  obtain⟨σ1,σ2,g2,a,b,c⟩:=step i σ g hi h
  exact⟨.int (lo+i),σ1,by simp [ZZ,hi],a,.inl ⟨σ2,g2,.inl b,c⟩⟩) (fun σ g _=>by simp [ZZ]) (n+1) 0 σ g (by omega) (by omega) h0
 rcases this with h | h
 ·exact h
 ·exact h.2.elim
theorem Qax {t:MG} {body:MS} {ds:List D} {σ:S3} {g:G} (I:Nat->S3->G->Prop) (R:Out->Prop) (h0:I 0 σ g)
  (step:∀ i d σ g,ds[i]?=some d->I i σ g->∃ σ1,t d σ=some σ1∧((∃ σ2 g2,body σ1 g=.nx σ2 g2∧I (i+1) σ2 g2)∨(Qh9 (body σ1 g)∧R (body σ1 g)))) :
  (∃ σ' g',forL ⟨fun _ i=>some ds[i]?,ds.length⟩ t body (ds.length+1) 0 σ g=.nx σ' g'∧I ds.length σ' g')∨(Qh9 (forL ⟨fun _ i=>some ds[i]?,ds.length⟩ t body (ds.length+1) 0 σ g)∧R (forL ⟨fun _ i=>some ds[i]?,ds.length⟩ t body (ds.length+1) 0 σ g)) :=
 JY (src:=⟨fun _ i=>some ds[i]?,ds.length⟩) (t:=t) (body:=body) (n:=ds.length) I R (fun i σ g hi h=>by
  obtain⟨σ1,a,b⟩:=step i ds[i] σ g (by simp [hi]) h
  refine⟨ds[i],σ1,by simp [hi],a,?_⟩
  rcases b with⟨σ2,g2,b,c⟩ | b
  ·exact .inl ⟨σ2,g2,.inl b,c⟩
  ·exact .inr b) (fun σ g _=>by simp) (ds.length+1) 0 σ g (by omega) (by omega) h0
theorem Yq {src:Src} {t:MG} {c:MT} {e:ME} {n:Nat} (I:Nat->S3->G->List D->Prop)
  (step:∀ i σ g acc,i<n->I i σ g acc->∃ d σ1 g1,src.at' g i=some (some d)∧t d σ=some σ1∧((∃ y g2,c σ1 g=.ok true g1∧e σ1 g1=.ok y g2∧I (i+1) σ1 g2 (acc++[y]))∨(c σ1 g=.ok false g1∧I (i+1) σ1 g1 acc)))
  (stop:∀ σ g acc,I n σ g acc->src.at' g n=some none):∀(f i:Nat) (σ:S3) (g:G) (acc:List D),n - i<f->i≤n->I i σ g acc->∃ ds σ' g',YR src t c e f i σ g acc=.ok ds g'∧I n σ' g' ds
 | 0,_,_,_,_,h,_,_=>by omega
 | f+1,i,σ,g,acc,hf,hi,h=>by
  unfold YR
  by_cases q:i=n
  ·subst q
   rw [stop σ g acc h]
   exact⟨acc,σ,g,rfl,h⟩
  ·obtain⟨d,σ1,g1,h1,h2,h3⟩:=step i σ g acc (by omega) h
   rw [h1]
   dsimp only
   rw [h2]
   dsimp only
   rcases h3 with⟨y,g2,h3,h4,h5⟩ | ⟨h3,h5⟩
   ·rw [h3]; dsimp only; rw [if_pos rfl,h4]; exact Yq I step stop f (i+1) σ1 g2 _ (by omega) (by omega) h5
   ·rw [h3]; dsimp only; rw [if_neg Bool.false_ne_true]; exact Yq I step stop f (i+1) σ1 g1 _ (by omega) (by omega) h5
theorem Qfr {ds:List D} {e:ME} {no:Nat} {σ:S3} {g:G} {f:D->D} (hz:ds.length≤SZ) (he:∀ d∈ds,∀ g1,Keeps [] g g1->∃ g2,e ((List.replicate (no+1) none++σ).set 0 (some d)) g1=.ok (f d) g2∧Keeps [] g1 g2) :
  ∃ g',YR ⟨fun _ i=>some ds[i]?,ds.length⟩ (gSet 0) Y2 e (ds.length+1) 0 (List.replicate (no+1) none++σ) g []=.ok (ds.map f) g'∧Keeps [] g g':=by
 obtain⟨xs,σ',g',h1,h2,h3,h4⟩:=Yq (src:=⟨fun _ i=>some ds[i]?,ds.length⟩) (t:=gSet 0) (c:=Y2) (e:=e) (n:=ds.length)
  (fun i σ' g1 acc=>acc=(ds.take i).map f∧Keeps [] g g1∧∃ u,σ'=(List.replicate (no+1) none++σ).set 0 u) (fun i σ' g1 acc hi h=>by
   obtain⟨h1,h2,u,h3⟩:=h
   obtain⟨g2,k1,k2⟩:=he ds[i] (List.getElem_mem hi) g1 h2
   refine⟨ds[i],_,g1,by simp [hi],rfl,.inl ⟨f ds[i],g2,rfl,?_,?_,h2.trans k2,some ds[i],?_⟩⟩
   ·subst h3; rw [List.set_set]; exact k1
   ·rw [h1,List.take_succ_eq_append_getElem hi,List.map_append]; rfl
   ·subst h3; rw [List.set_set]) (fun σ g acc _=>by simp) (ds.length+1) 0 (List.replicate (no+1) none++σ) g [] (by omega) (by omega) ⟨by simp,.refl,none,by simp [List.replicate_succ]⟩
 refine⟨g',?_,h3⟩
 rw [h1,h2,List.take_length]
end L3
end
section
namespace L3
open PySem
noncomputable def J0 (d:D) (n:Int):Bool:=match d with
 | .int i=>decide (0≤i∧i<n)
 | _=>false
noncomputable def Ql3:D->Bool
 | .int _=>true
 | _=>false
theorem JM (d:D) (n:Int) (g:G) (t:Ty) (_:tyOf g d=some t) (hp:Ql3 d=true:=by rfl):QL [d,.int n] g=.ok (.bl (J0 d n)) g:=by
 cases d with
 | int i =>
  have c:QbF pLe pLt (mLit (.int 0)) (mVar 0) (mVar 1) [some (.int i),some (.int n)] g=.ok (.bl (decide (0≤i∧i<n))) g:=by
   unfold QbF
   rw [show mLit (D.int 0) [some (D.int i),some (D.int n)] g=.ok (.int 0) g from rfl,Res.bind_ok,show mVar 0 [some (D.int i),some (D.int n)] g=.ok (.int i) g from rfl,Res.bind_ok,show pLe (.int 0) (.int i) g=.ok (.bl (decide (0≤i))) g from rfl,Res.bind_ok]
   by_cases h0:0≤i
   ·rw [decide_eq_true h0]
    show Res.ok (D.bl (decide (i<n))) g=_
    by_cases h1:i<n
    ·rw [decide_eq_true h1,decide_eq_true ⟨h0,h1⟩]
    ·rw [decide_eq_false h1,decide_eq_false fun z=>h1 z.2]
   ·rw [decide_eq_false h0,decide_eq_false fun z=>h0 z.1]
  have a1:QA Jm (Qa (mVar 0) mNil) [some (.int i),some (.int n)] g=.ok (.bl true) g:=rfl
  show(match mRet (mAnd (QA Jm (Qa (mVar 0) mNil)) (QbF pLe pLt (mLit (.int 0)) (mVar 0) (mVar 1))) [some (.int i),some (.int n)] g with
   | .nx _ g'=>Res.ok D.non g'
   | .rt d g'=>.ok d g'
   | .raise e _ g'=>.raise e g'
   | _=>.stuck)=_
  unfold mRet mAnd
  rw [a1,Res.bind_ok]
  dsimp only
  rw [if_pos rfl,c]
  rfl
 | _=>cases hp
theorem s_l:Str.ofString "l" = ⟨#[108]⟩:=by decide +kernel
theorem s_r:Str.ofString "r" = ⟨#[114]⟩:=by decide +kernel
noncomputable def wayD:D->Bool
 | .str s=>s == ⟨#[108]⟩ || s == ⟨#[114]⟩
 | _=>false
noncomputable def entD (d:D) (states signs:Int):Bool:=match d with
 | .non=>true
 | .tup [a,b,c]=>J0 a signs && wayD b && J0 c states
 | _=>false
noncomputable def thingD (_:G) (d:D):Prop:=d=.non∨∃(i j:Int) (w:Str),d=.tup [.int i,.str w,.int j]
theorem Qkb (s:Str) (g:G):pIn false (.str s) (.tup [.str ⟨#[108]⟩,.str ⟨#[114]⟩]) g=.ok (.bl (wayD (.str s))) g:=by
 show Res.ok (D.bl ((⟨#[108]⟩ == s) || ((⟨#[114]⟩ == s) || false))) g=.ok (.bl ((s == ⟨#[108]⟩) || (s == ⟨#[114]⟩))) g
 rw [show((⟨#[108]⟩:Str) == s)=(s == ⟨#[108]⟩) from BEq.comm,show((⟨#[114]⟩:Str) == s)=(s == ⟨#[114]⟩) from BEq.comm,Bool.or_false]
theorem QdW (d:D) (states signs:Int) (g:G) (h:thingD g d):Yc [d,.int states,.int signs] g=.ok (.bl (entD d states signs)) g:=by
 rcases h with rfl | ⟨i,j,w,rfl⟩
 ·rfl
 ·have a1:QA QL (Qa (mOp2 pIx (mVar 0) (mLit (.int 0))) (Qa (mVar 2) mNil)) [some (.tup [.int i,.str w,.int j]),some (.int states),some (.int signs)] g=.ok (.bl (J0 (.int i) signs)) g:=JM (.int i) signs g .int rfl
  have a3:QA QL (Qa (mOp2 pIx (mVar 0) (mLit (.int 2))) (Qa (mVar 1) mNil)) [some (.tup [.int i,.str w,.int j]),some (.int states),some (.int signs)] g=.ok (.bl (J0 (.int j) states)) g:=JM (.int j) states g .int rfl
  have a2:mOp2 (pIn false) (mOp2 pIx (mVar 0) (mLit (.int 1))) (mOpA pTup (Qa (mLit (.str (Str.ofString "l"))) (Qa (mLit (.str (Str.ofString "r"))) mNil))) [some (.tup [.int i,.str w,.int j]),some (.int states),some (.int signs)] g=.ok (.bl (wayD (.str w))) g:=by
   rw [s_l,s_r]; exact Qkb w g
  show(match (mRet (mAnd (QA QL (Qa (mOp2 pIx (mVar 0) (mLit (.int 0))) (Qa (mVar 2) mNil))) (mAnd (mOp2 (pIn false) (mOp2 pIx (mVar 0) (mLit (.int 1))) (mOpA pTup (Qa (mLit (.str (Str.ofString "l"))) (Qa (mLit (.str (Str.ofString "r"))) mNil)))) (QA QL (Qa (mOp2 pIx (mVar 0) (mLit (.int 2))) (Qa (mVar 1) mNil)))))) [some (.tup [.int i,.str w,.int j]),some (.int states),some (.int signs)] g with
   | .nx _ g'=>Res.ok D.non g'
   | .rt d g'=>.ok d g'
   | .raise e _ g'=>.raise e g'
   | _=>.stuck)=.ok (.bl (J0 (.int i) signs && wayD (.str w) && J0 (.int j) states)) g
  unfold mRet mAnd
  rw [a1,Res.bind_ok]
  dsimp only
  cases J0 (.int i) signs
  ·rfl
  ·rw [if_pos rfl,a2,Res.bind_ok]
   dsimp only
   cases wayD (.str w)
   ·rfl
   ·rw [if_pos rfl,a3]; rfl
end L3
end
section
namespace L3
open PySem
theorem thingD.mono {g g1:G} {d:D} (_:Keeps [] g g1) (h:thingD g d):thingD g1 d:=h
theorem QeL {α:Type} (f:α->Bool):∀ ts:List α,allB (ts.map fun d=>D.bl (f d))=some (ts.all f)
 | []=>rfl
 | t::ts=>by simp [allB,QeL f ts]
noncomputable def Yr (n m:Nat) (r:List D):Bool:=r.length == m && r.all fun d=>entD d n m
noncomputable def J4 (rows:List (List D)):Bool:=match rows with
 | []=>false
 | r::_=>r.length != 0 && rows.all (Yr rows.length r.length)
theorem QgX (σ:S3) (g:G):QaX σ g=.stuck:=rfl
theorem eq_int (i j:Int) (g:G):pEq (.int i) (.int j) g=.ok (.bl (i == j)) g:=rfl
theorem ne_int (i j:Int) (g:G):pNe (.int i) (.int j) g=.ok (.bl (!(i == j))) g:=rfl
theorem Qkc (n m:Nat) (ts:List D) (x:D) (g:G) (hz:ts.length≤SZ) (h:∀ d∈ts,thingD g d) :
  ∃ g',Keeps [] g g'∧mOp1 pAll (Y0 (ZN (mVar 3)) 1 [1,2] (gSet 0) Y2 (QA Yc (Qa (mVar 0) (Qa (mVar 1) (Qa (mVar 2) mNil))))) [some x,some (.int n),some (.int m),some (.tup ts)] g=.ok (.bl (ts.all fun d=>entD d n m)) g':=by
 obtain⟨g1,h1,k1⟩:=Qfr (ds:=ts) (e:=QA Yc (Qa (mVar 0) (Qa (mVar 1) (Qa (mVar 2) mNil)))) (no:=0) (σ:=[some (.int n),some (.int m)]) (g:=g) (f:=fun d=>.bl (entD d n m)) hz
  (fun d hd g1 k=>⟨g1,by simp [QA,Qa,mNil,mVar,Res.bind,QdW d n m g1 ((h d hd).mono k)],.refl⟩)
 refine⟨g1++[.lst (ts.map fun d=>.bl (entD d n m))],k1.trans (.push _),?_⟩
 have h1:YR ⟨fun _ i=>some ts[i]?,ts.length⟩ (gSet 0) Y2 (QA Yc (Qa (mVar 0) (Qa (mVar 1) (Qa (mVar 2) mNil)))) (ts.length+1) 0 [none,some (.int n),some (.int m)] g []=.ok (ts.map fun d=>.bl (entD d n m)) g1:=h1
 simp [mOp1,Y0,ZN,mVar,Res.bind,QaY,hz,capt,h1,pAll,QeL]
theorem Qia (n m:Nat) (ts:List D) (x:D) (g:G) (hz:ts.length≤SZ) (h:∀ d∈ts,thingD g d) :
  ∃ g',Keeps [] g g'∧Q3 [some x,some (.int n),some (.int m),some (.tup ts)] g=if Yr n m ts=true then .nx [some x,some (.int n),some (.int m),some (.tup ts)] g' else .stuck:=by
 by_cases hl:ts.length=m
 ·obtain⟨g2,k2,e2⟩:=Qkc n m ts x g hz h
  refine⟨g2,k2,?_⟩
  have hl':((ts.length:Int) == (m:Int))=true:=by simp [hl]
  have gr:Yr n m ts=ts.all fun d=>entD d n m:=by simp [Yr,hl]
  rw [gr]
  simp only [Q3,mSeq,mIf,Qf,mOp2,mOp1,mVar,Res.bind,List.getElem?_cons_succ,List.getElem?_cons_zero,pLen,ne_int,hl',Bool.not_true,Bool.false_eq_true,if_false,QB,YZ]
  simp only [mOp1,Res.bind] at e2
  rw [e2]
  cases (ts.all fun d=>entD d n m) <;> simp [QaX]
 ·refine⟨g,.refl,?_⟩
  have hl':((ts.length:Int) == (m:Int))=false:=by simp; omega
  have gr:Yr n m ts=false:=by
   have:(ts.length == m)=false:=by simp [hl]
   simp only [Yr,this,Bool.false_and]
  rw [gr]
  simp only [Q3,mSeq,mIf,Qf,mOp2,mOp1,mVar,Res.bind,List.getElem?_cons_succ,List.getElem?_cons_zero,pLen,ne_int,hl',Bool.not_false,if_true,QgX,Bool.false_eq_true,if_false]
theorem Qcq (rows:List (List D)) (g:G) (hz:∀ r∈rows,r.length≤SZ) (h:∀ r∈rows,∀ d∈r,thingD g d) :
  ∃ g',Keeps [] g g'∧ZC [.tup (rows.map .tup)] g=if J4 rows=true then .ok .non g' else .stuck:=by
 cases rows with
 | nil=>exact⟨g,.refl,by simp [ZC,mDef,ZB,mSeq,mIf,Qf,mOp2,mOp1,mVar,mLit,Res.bind,pLen,eq_int,QgX,J4]⟩
 | cons r rest =>
  have e0:¬ ((rest.length:Int)+1=0):=by omega
  have e1:(0:Int)<(rest.length:Int)+1:=by omega
  by_cases hr:r.length=0
  ·refine⟨g,.refl,?_⟩
   simp [ZC,mDef,ZB,mSeq,mIf,Qf,mOp2,mOp1,mVar,mLit,Res.bind,pLen,eq_int,QgX,J4,hr,e0,e1,QB,mAsg,gSet,pIx,atD,ixD]
  ·have hr':¬ ((r.length:Int)=0):=by omega
   have hrn:¬ r=[]:=fun z=>hr (by rw [z]; rfl)
   have hd0:J4 (r::rest)=(r::rest).all (Yr (r::rest).length r.length):=by simp [J4,hr]
   have loop:=Qax (t:=gSet 3) (ds:=(r::rest).map D.tup) (σ:=[some (.tup ((r::rest).map .tup)),some (.int (r::rest).length),some (.int r.length),none]) (g:=g) (body:=Q3)
    (fun i σ g1=>Keeps [] g g1∧(∃ u,σ=[some (.tup ((r::rest).map .tup)),some (.int (r::rest).length),some (.int r.length),u])∧∀ x∈(r::rest).take i,Yr (r::rest).length r.length x=true)
    (fun o=>o=.stuck∧∃ x∈r::rest,Yr (r::rest).length r.length x=false) ⟨.refl,⟨none,rfl⟩,by simp⟩ (fun i d σ g1 hd ⟨k,⟨u,hσ⟩,hg⟩=>by
     rw [List.getElem?_map] at hd
     cases hx:(r::rest)[i]? with
     | none=>rw [hx] at hd; cases hd
     | some ts =>
      rw [hx] at hd
      cases hd
      have hm:ts∈r::rest:=List.mem_of_getElem? hx
      subst hσ
      refine⟨_,rfl,?_⟩
      obtain⟨g2,k2,e2⟩:=Qia (r::rest).length r.length ts (.tup ((r::rest).map .tup)) g1 (hz ts hm) fun d hd=>(h ts hm d hd).mono k
      simp only [List.set]
      rw [e2]
      cases ha:Yr (r::rest).length r.length ts with
      | true =>
       left
       refine⟨_,g2,by rw [if_pos rfl],k.trans k2,⟨_,rfl⟩,fun x hx'=>?_⟩
       rw [List.take_succ,hx] at hx'
       rcases List.mem_append.mp hx' with z | z
       ·exact hg x z
       ·have:x=ts:=by simpa using z
        rw [this]; exact ha
      | false =>
       right
       rw [if_neg Bool.false_ne_true]
       exact⟨trivial,rfl,ts,hm,ha⟩)
   have fin:ZB [some (.tup ((r::rest).map .tup)),none,none,none] g=forL ⟨fun _ i=>some ((r::rest).map D.tup)[i]?,((r::rest).map D.tup).length⟩ (gSet 3) Q3 (((r::rest).map D.tup).length+1) 0 [some (.tup ((r::rest).map .tup)),some (.int (r::rest).length),some (.int r.length),none] g:=by
    simp [ZB,mSeq,mIf,Qf,mOp2,mOp1,mVar,mLit,Res.bind,pLen,eq_int,e0,QB,mAsg,gSet,pIx,atD,ixD,e1,hr',hrn,mFor,ZN,QaY]
   have ap:ZC [.tup ((r::rest).map .tup)] g=match ZB [some (.tup ((r::rest).map .tup)),none,none,none] g with
    | .nx _ g'=>.ok .non g'
    | .rt d g'=>.ok d g'
    | .raise e _ g'=>.raise e g'
    | _=>.stuck:=rfl
   rw [ap,fin]
   rcases loop with⟨σ',g',h1,k1,_,h2⟩ | ⟨_,h1,x,hx,hg⟩
   ·refine⟨g',k1,?_⟩
    have:J4 (r::rest)=true:=by
     rw [hd0,List.all_eq_true]
     intro x hx
     exact h2 x (by rw [List.length_map,List.take_length]; exact hx)
    rw [if_pos this,h1]
   ·refine⟨g,.refl,?_⟩
    have:¬ J4 (r::rest)=true:=by
     rw [hd0,List.all_eq_true]
     intro z
     rw [z x hx] at hg; cases hg
    rw [if_neg this,h1]
end L3
end
section
namespace L3
open PySem
theorem Keeps.seq {g g1:G} (k:Keeps [] g g1) {d:D} {p:Bool×List D} (h:QG g d=some p):QG g1 d=some p:=by
 cases d with
 | ref n =>
  unfold QG at h ⊢
  dsimp only at h ⊢
  cases hg:g[n]? with
  | none=>rw [hg] at h; cases h
  | some o=>rw [hg] at h; rw [k.at' n o (by simp) hg]; exact h
 | _=>exact h
theorem Ql4 {g:G} {d:D} {b:Bool} {ds:List D} (h:QG g d=some (b,ds)):∃ src,QaY d g=.ok src g∧src.top=ds.length∧∀ g1 i,QG g1 d=some (b,ds)->src.at' g1 i=some ds[i]?:=by
 cases d with
 | tup es=>cases h; exact⟨_,rfl,rfl,fun _ _ _=>rfl⟩
 | fl es=>cases h; exact⟨_,rfl,rfl,fun _ _ _=>rfl⟩
 | ref n =>
  unfold QG at h
  dsimp only at h
  cases hg:g[n]? with
  | none=>rw [hg] at h; cases h
  | some o =>
   rw [hg] at h
   cases o with
   | lst es =>
    cases h
    refine⟨_,by unfold QaY; dsimp only; rw [hg],rfl,fun g1 i h1=>?_⟩
    unfold QG at h1
    dsimp only at h1 ⊢
    cases hg1:g1[n]? with
    | none=>rw [hg1] at h1; cases h1
    | some o1 =>
     rw [hg1] at h1
     cases o1 with
     | lst es1=>cases h1; rfl
     | _=>cases h1
   | _=>cases h
 | _=>cases h
theorem Qib {src:Src} {ds:List D} {e:ME} {no:Nat} {σ:S3} {g:G} {f:D->D} (ht:src.top=ds.length) (hs:∀ g1 i,Keeps [] g g1->src.at' g1 i=some ds[i]?)
  (he:∀ d∈ds,∀ g1,Keeps [] g g1->∃ g2,e ((List.replicate (no+1) none++σ).set 0 (some d)) g1=.ok (f d) g2∧Keeps [] g1 g2) :
  ∃ g',YR src (gSet 0) Y2 e (src.top+1) 0 (List.replicate (no+1) none++σ) g []=.ok (ds.map f) g'∧Keeps [] g g':=by
 obtain⟨xs,σ',g',h1,h2,h3,h4⟩:=Yq (src:=src) (t:=gSet 0) (c:=Y2) (e:=e) (n:=ds.length)
  (fun i σ' g1 acc=>acc=(ds.take i).map f∧Keeps [] g g1∧∃ u,σ'=(List.replicate (no+1) none++σ).set 0 u) (fun i σ' g1 acc hi h=>by
   obtain⟨h1,h2,u,h3⟩:=h
   obtain⟨g2,k1,k2⟩:=he ds[i] (List.getElem_mem hi) g1 h2
   refine⟨ds[i],_,g1,by rw [hs g1 i h2]; simp [hi],rfl,.inl ⟨f ds[i],g2,rfl,?_,?_,h2.trans k2,some ds[i],?_⟩⟩
   ·subst h3; rw [List.set_set]; exact k1
   ·rw [h1,List.take_succ_eq_append_getElem hi,List.map_append]; rfl
   ·subst h3; rw [List.set_set]) (fun σ g1 acc h=>by rw [hs g1 _ h.2.1]; simp) (src.top+1) 0 (List.replicate (no+1) none++σ) g [] (by omega) (by omega) ⟨by simp,.refl,none,by simp [List.replicate_succ]⟩
 refine⟨g',?_,h3⟩
 rw [h1,h2,List.take_length]
noncomputable def rowsOf (g:G) (d:D) (rows:List (List D)):Prop:=∃ b ds,QG g d=some (b,ds)∧ds.length=rows.length∧∀(i:Nat) x r,ds[i]?=some x->rows[i]?=some r->∃ c,QG g x=some (c,r)
theorem rowsOf.mono {g g1:G} {d:D} {rows:List (List D)} (k:Keeps [] g g1) (h:rowsOf g d rows):rowsOf g1 d rows:=by
 obtain⟨b,ds,h1,h2,h3⟩:=h
 exact⟨b,ds,k.seq h1,h2,fun i x r hx hr=>let ⟨c,q⟩:=h3 i x r hx hr; ⟨c,k.seq q⟩⟩
theorem QgY {g:G} {d:D} {b:Bool} {ds:List D} (h:QG g d=some (b,ds)):Z7 d g=.ok (.tup ds) g:=by
 cases d with
 | tup es=>cases h; rfl
 | fl es=>cases h; rfl
 | ref n =>
  unfold QG at h
  dsimp only at h
  cases hg:g[n]? with
  | none=>rw [hg] at h; cases h
  | some o =>
   rw [hg] at h
   cases o with
   | lst es=>cases h; simp [Z7,hg]
   | _=>cases h
 | _=>cases h
theorem Zg:Str.ofString "table" = ⟨#[116,97,98,108,101]⟩:=by decide +kernel
noncomputable def JN (rows:List (List D)):GO:=.ins 11 [(Str.ofString "table",.tup (rows.map .tup))]
theorem Qkd (m:Nat) (d:D) (rows:List (List D)) (g:G) (hm:g[m]?=some (.ins 11 [])) (hr:rowsOf g d rows) (hz:∀ r∈rows,r.length≤SZ) (hl:rows.length≤SZ) (h:∀ r∈rows,∀ d∈r,thingD g d) :
  ∃ g',Keeps [] g g'∧Zx [.ref m,d] g=if J4 rows=true then .ok .non (g'.set m (JN rows)) else .stuck:=by
 obtain⟨b,ds,h1,h2,h3⟩:=hr
 obtain⟨src,s1,s2,s3⟩:=Ql4 h1
 have mp:∀ x∈ds,∃ c r,QG g x=some (c,r):=fun x hx=>by
  obtain⟨i,hi,rfl⟩:=List.getElem_of_mem hx
  obtain⟨c,q⟩:=h3 i ds[i] (rows[i]'(by omega)) (by simp [hi]) (by simp [show i<rows.length by omega])
  exact⟨c,_,q⟩
 obtain⟨g1,c1,k1⟩:=Qib (src:=src) (ds:=ds) (e:=mOp1 Z7 (mVar 0)) (no:=0) (σ:=[]) (g:=g) (f:=fun x=>.tup (((QG g x).map (·.2)).getD [])) s2 (fun g1 i k=>s3 g1 i (k.seq h1)) (fun x hx g1 k=>by
  obtain⟨c,r,q⟩:=mp x hx
  refine⟨g1,?_,.refl⟩
  simp [mOp1,mVar,Res.bind,QgY (k.seq q),q])
 have em:(ds.map fun x=>D.tup (((QG g x).map (·.2)).getD []))=rows.map .tup:=by
  apply List.ext_getElem
  ·simp [h2]
  ·intro i hi hi'
   simp only [List.length_map] at hi hi'
   obtain⟨c,q⟩:=h3 i ds[i] rows[i] (by simp [hi]) (by simp [hi'])
   simp [q]
 rw [em] at c1
 have c1:YR src (gSet 0) Y2 (mOp1 Z7 (mVar 0)) (src.top+1) 0 [none] g []=.ok (rows.map .tup) g1:=c1
 have k2:Keeps [] g (g1++[.lst (rows.map .tup)]):=k1.trans (.push _)
 obtain⟨g3,k3,c3⟩:=Qcq rows (g1++[.lst (rows.map .tup)]) hz fun r hr d hd=>(h r hr d hd).mono k2
 refine⟨g3,k2.trans k3,?_⟩
 have hz2:src.top≤SZ:=by omega
 have hm3:=(k2.trans k3).at' m _ (by simp) hm
 simp [Zx,mDef,Ju,mSeq,mAsg,mOp1,Y0,ZN,mVar,Res.bind,s1,hz2,capt,c1,Z7,gSet,ZA,QA,Qa,mNil,c3]
 by_cases hg:J4 rows=true
 ·simp [hg,QN,mVar,hm3,putG,JN]
 ·simp [hg]
theorem Qke (d:D) (rows:List (List D)) (g:G) (hr:rowsOf g d rows) (hz:∀ r∈rows,r.length≤SZ) (hl:rows.length≤SZ) (h:∀ r∈rows,∀ d∈r,thingD g d) (a:MA) (σ:S3) (g0:G) (ha:a σ g0=.ok [d] g) :
  ∃ g',Keeps [] g g'∧QcP 11 Zx a σ g0=(if J4 rows=true then .ok (.ref g.length) g' else .stuck)∧(J4 rows=true->g'[g.length]?=some (JN rows)):=by
 have kp:Keeps [] g (g++[.ins 11 []]):=.push _
 obtain⟨g',k',e'⟩:=Qkd g.length d rows (g++[.ins 11 []]) (Zb _) (hr.mono kp) hz hl fun r hr d hd=>(h r hr d hd).mono kp
 by_cases hg:J4 rows=true
 ·rw [if_pos hg] at e'
  refine⟨g'.set g.length (JN rows),?_,?_,fun _=>?_⟩
  ·refine⟨by rw [List.length_set]; exact Nat.le_trans kp.len k'.len,fun n o _ e=>?_⟩
   have hn:n<g.length:=ZF e
   rw [List.getElem?_set_ne (by omega)]
   exact(kp.trans k').at' n o (by simp) e
  ·simp [QcP,ha,Res.bind,e',hg]
  ·rw [List.getElem?_set_self]
   have:=k'.len
   simp at this
   omega
 ·rw [if_neg hg] at e'
  exact⟨g',kp.trans k',by simp [QcP,ha,Res.bind,e',hg],fun z=>absurd z hg⟩
theorem Qc7 (m:Nat) (rows:List (List D)) (g:G) (h:g[m]?=some (JN rows)):ZV [.ref m] g=.ok (.int rows.length) g:=by
 simp [ZV,mDef,Qbc,mRet,mOp1,QF,mVar,Res.bind,h,JN,pLen]
theorem QdX (m:Nat) (r:List D) (rest:List (List D)) (g:G) (h:g[m]?=some (JN (r::rest))):YH [.ref m] g=.ok (.int r.length) g:=by
 have e:(0:Int)<(rest.length:Int)+1:=by omega
 simp [YH,mDef,QbQ,mRet,mOp1,mOp2,mLit,QF,mVar,Res.bind,h,JN,pLen,pIx,atD,ixD,e]
end L3
end
section
namespace L3
open PySem
theorem Ys {a b:MS} {σ σ':S3} {g g':G} (h:a σ g=.nx σ' g'):mSeq a b σ g=b σ' g':=by unfold mSeq; rw [h]
theorem Jc {a b:MS} {σ:S3} {d:D} {g g':G} (h:a σ g=.rt d g'):mSeq a b σ g=.rt d g':=by unfold mSeq; rw [h]
theorem QM {i:Nat} {a:ME} {σ:S3} {d:D} {g g':G} (h:a σ g=.ok d g'):mAsg (gSet i) a σ g=.nx (σ.set i (some d)) g':=by unfold mAsg; rw [h]; rfl
theorem Qcr {c:MT} {a b:MS} {σ:S3} {g g':G} (h:c σ g=.ok true g'):mIf c a b σ g=a σ g':=by unfold mIf; rw [h]; rfl
theorem Qc8 {c:MT} {a b:MS} {σ:S3} {g g':G} (h:c σ g=.ok false g'):mIf c a b σ g=b σ g':=by unfold mIf; rw [h]; rfl
theorem Qx {f:MF} {a:MA} {σ:S3} {ds:List D} {g g':G} (h:a σ g=.ok ds g'):QA f a σ g=f ds g':=by unfold QA; rw [h]; rfl
theorem YV {a:ME} {σ:S3} {d:D} {g g':G} (h:a σ g=.ok d g'):ZA a σ g=.nx σ g':=by unfold ZA; rw [h]
theorem ZS {a:ME} {σ:S3} {d:D} {g g':G} (h:a σ g=.ok d g'):mRet a σ g=.rt d g':=by unfold mRet; rw [h]
theorem ZG {k n:Nat} {b:MS} {ds:List D} {d:D} {g g':G} (hl:ds.length=k) (h:b (ds.map some++List.replicate n none) g=.rt d g'):mDef k n b ds g=.ok d g':=by unfold mDef; rw [if_pos hl,h]
theorem Ql5 (ns:List Int) (i:Int) (h:0<ns.length):∃ x,atD (ns.map D.int) (i % ns.length)=some (.int x):=by
 have h1:0≤i % (ns.length:Int):=Int.emod_nonneg _ (by omega)
 have h2:i % (ns.length:Int)<ns.length:=Int.emod_lt_of_pos _ (by omega)
 have h3:(i % (ns.length:Int)).toNat<ns.length:=by omega
 refine⟨ns[(i % (ns.length:Int)).toNat],?_⟩
 unfold atD ixD
 rw [List.length_map,if_pos h1,if_pos h2]
 simp [h3]
theorem ix0 {a:Nat} {d:D} {g:G} (h:g[a]?=some (.lst [d])):pIx (.ref a) (.int 0) g=.ok d g:=by
 unfold pIx; dsimp only; rw [h]; rfl
theorem ixfl {ds:List D} {i:Int} {d:D} {g:G} (h:atD ds i=some d):pIx (.fl ds) (.int i) g=.ok d g:=by
 unfold pIx; dsimp only; rw [h]
theorem QgZ (c:Int) (x:D) (a:Nat) (k:Int) (g:G) (ga:g[a]?=some (.lst [.int k])) (hk:0≤k) (hk2:k<1000000001):∃ m,0≤m∧m<1999999973∧(mSeq (mAsg (gSet 3) (mOp2 pMod (mOp2 pMul (mOp2 pAdd (mOp2 pAdd (mOp2 pMod (mVar 2) (mLit (.int 2147483647))) (mOp2 pMul (mOp2 pMul (mOp2 pIx (mVar 1) (mLit (.int 0))) (mOp2 pIx (mVar 1) (mLit (.int 0)))) (mLit (.int 7919)))) (mLit (.int 11))) (mLit (.int 48271))) (mLit (.int 2147483647))))
      (mRet (mOp2 pMod (mOp2 pMul (mVar 3) (mVar 3)) (mLit (.int 1999999973))))) [some x,some (.ref a),some (.int c),none] g=.rt (.int m) g:=by
  have c1:cM k:=⟨by omega,by omega⟩
  have c2:cM 7919:=⟨by decide,by decide⟩
  have c3:cM 48271:=⟨by decide,by decide⟩
  have hr:=Int.emod_lt_of_pos ((c % 2147483647+k*k*7919+11)*48271) (show(0:Int)<2147483647 by decide)
  have hr0:=Int.emod_nonneg ((c % 2147483647+k*k*7919+11)*48271) (show(2147483647:Int)≠0 by decide)
  have c4:cM (((c % 2147483647+k*k*7919+11)*48271) % 2147483647):=⟨by omega,by omega⟩
  refine⟨((c % 2147483647+k*k*7919+11)*48271) % 2147483647*(((c % 2147483647+k*k*7919+11)*48271) % 2147483647) % 1999999973,Int.emod_nonneg _ (by decide),Int.emod_lt_of_pos _ (by decide),?_⟩
  have e1:(mOp2 pMod (mOp2 pMul (mOp2 pAdd (mOp2 pAdd (mOp2 pMod (mVar 2) (mLit (.int 2147483647))) (mOp2 pMul (mOp2 pMul (mOp2 pIx (mVar 1) (mLit (.int 0))) (mOp2 pIx (mVar 1) (mLit (.int 0)))) (mLit (.int 7919)))) (mLit (.int 11))) (mLit (.int 48271))) (mLit (.int 2147483647))) [some x,some (.ref a),some (.int c),none] g=.ok (.int (((c % 2147483647+k*k*7919+11)*48271) % 2147483647)) g:=by
    simp [mOp2,mVar,mLit,Res.bind,ix0 ga,pMod,pMul,pAdd,c1,c2,c3]
  rw [Ys (QM e1)]
  generalize ((c % 2147483647+k*k*7919+11)*48271) % 2147483647=r at c4 ⊢
  refine ZS ?_
  simp [mOp2,mVar,mLit,Res.bind,pMod,pMul,c4]
theorem Qbi (ns:List Int) (a:Nat) (k:Int) (g:G) (hg:g[a]?=some (.lst [.int k])) (hk:0≤k) (hk2:k<1000000000) :
  ∃ m,0≤m∧m<1999999973∧Yb [.fl (ns.map .int),.ref a] g=.ok (.int m) (g.set a (.lst [.int (k+1)])):=by
 have s1:QcQ (mVar 1) (mLit (.int 0)) (mOp2 pAdd (mOp2 pIx (mVar 1) (mLit (.int 0))) (mLit (.int 1))) [some (.fl (ns.map .int)),some (.ref a),none,none] g=.nx [some (.fl (ns.map .int)),some (.ref a),none,none] (g.set a (.lst [.int (k+1)])):=by
  simp [QcQ,mOp2,mVar,mLit,Res.bind,ix0 hg,pAdd,hg,ixD]
 have ga:(g.set a (.lst [.int (k+1)]))[a]?=some (.lst [.int (k+1)]):=Q4 hg
 generalize g.set a (.lst [.int (k+1)])=g1 at s1 ga ⊢
 have s2:mAsg (gSet 2) (mLit (.int 0)) [some (.fl (ns.map .int)),some (.ref a),none,none] g1=.nx [some (.fl (ns.map .int)),some (.ref a),some (.int 0),none] g1:=rfl
 have s3:∃ c,mIf (Qf (mOp2 pGt (mOp1 pLen (mVar 0)) (mLit (.int 0)))) (mAsg (gSet 2) (mOp2 pIx (mVar 0) (mOp2 pMod (mOp2 pIx (mVar 1) (mLit (.int 0))) (mOp1 pLen (mVar 0))))) QB [some (.fl (ns.map .int)),some (.ref a),some (.int 0),none] g1=.nx [some (.fl (ns.map .int)),some (.ref a),some (.int c),none] g1:=by
  by_cases hl:0<ns.length
  ·obtain⟨x,hx⟩:=Ql5 ns (k+1) hl
   have hl':(0:Int)<(ns.length:Int):=by omega
   refine⟨x,?_⟩
   rw [Qcr (g':=g1) (by simp [Qf,mOp2,mOp1,mVar,mLit,Res.bind,pLen,pGt,pCmp,hl])]
   refine QM ?_
   simp only [mOp2,mOp1,mVar,mLit,Res.bind,List.getElem?_cons_succ,List.getElem?_cons_zero,ix0 ga,pLen,pMod,List.length_map,hl',if_true,ixfl hx]
  ·cases ns with
   | nil=>exact⟨0,rfl⟩
   | cons x r=>simp at hl
 obtain⟨c,s3⟩:=s3
 obtain⟨m,m1,m2,m3⟩:=QgZ c (.fl (ns.map .int)) a (k+1) g1 ga (by omega) (by omega)
 refine⟨m,m1,m2,ZG rfl ?_⟩
 show Qco [some (.fl (ns.map .int)),some (.ref a),none,none] g=_
 unfold Qco
 rw [Ys s1,Ys s2,Ys s3,m3]
end L3
end
section
namespace L3
open PySem
noncomputable def entOk (d:D) (n m:Nat):Prop:=d=.non∨∃(i j:Int) (w:Str),d=.tup [.int i,.str w,.int j]∧0≤i∧i<m∧0≤j∧j<n∧(w=⟨#[108]⟩∨w=⟨#[114]⟩)
theorem entOk.ent {d:D} {n m:Nat} (h:entOk d n m):entD d n m=true:=by
 rcases h with rfl | ⟨i,j,w,rfl,h1,h2,h3,h4,h5⟩
 ·rfl
 ·rcases h5 with rfl | rfl <;> simp [entD,J0,wayD,h1,h2,h3,h4]
theorem entOk.thing {d:D} {n m:Nat} {g:G} (h:entOk d n m):thingD g d:=by
 rcases h with h | ⟨i,j,w,h,_⟩
 ·exact .inl h
 ·exact .inr ⟨i,j,w,h⟩
theorem s_lr:Str.ofString "lr" = ⟨#[108,114]⟩:=by decide +kernel
theorem QmL (i:Int) (g:G):∃ w,pIx (.str (Str.ofString "lr")) (.int (i % 2)) g=.ok (.str w) g∧(w=⟨#[108]⟩∨w=⟨#[114]⟩):=by
 rw [s_lr]
 rcases(by omega:i % 2=0∨i % 2=1) with e | e
 ·rw [e]; exact⟨_,rfl,.inl rfl⟩
 ·rw [e]; exact⟨_,rfl,.inr rfl⟩
theorem Qbj {n:Nat} {ds:List D} {y:D} {σ:S3} {g:G} {i j:Nat} (hi:σ[i]?=some (some (.ref n))) (hj:σ[j]?=some (some y)) (h:g[n]?=some (.lst ds)) (hz:ds.length<SZ) :
  ZA (ZO (mVar i) (mVar j)) σ g=.nx σ (g.set n (.lst (ds++[y]))):=by
 refine YV (d:=.non) ?_
 simp [ZO,mVar,hi,hj,Res.bind,h,hz]
theorem Qg0 (ns:List Int) (a l t:Nat) (k:Int) (n m:Nat) (x5 x7 x8 x9:Option D) (row:List D) (g:G) (hn:0<n) (hm:0<m) (ga:g[a]?=some (.lst [.int k])) (gl:g[l]?=some (.lst row)) (hal:a≠l) (hk:0≤k) (hk2:k<1000000000) (hz:row.length<SZ) :
  ∃ d x8',entOk d n m∧Zo [some (.fl (ns.map .int)),some (.ref a),some (.int n),some (.int m),some (.ref t),x5,some (.ref l),x7,x8,x9] g=.nx [some (.fl (ns.map .int)),some (.ref a),some (.int n),some (.int m),some (.ref t),x5,some (.ref l),x7,x8',some d] ((g.set a (.lst [.int (k+1)])).set l (.lst (row++[d]))):=by
 obtain⟨mm,m1,m2,e⟩:=Qbi ns a k g ga hk hk2
 have gl1:(g.set a (.lst [.int (k+1)]))[l]?=some (.lst row):=by rw [List.getElem?_set_ne hal]; exact gl
 generalize g.set a (.lst [.int (k+1)])=g1 at e gl1 ⊢
 obtain⟨w,hw,ww⟩:=QmL (mm / 100) g1
 have hm':(0:Int)<m:=by omega
 have hn':(0:Int)<n:=by omega
 have s1:mAsg (gSet 8) (QA Yb (Qa (mVar 0) (Qa (mVar 1) mNil))) [some (.fl (ns.map .int)),some (.ref a),some (.int n),some (.int m),some (.ref t),x5,some (.ref l),x7,x8,x9] g=.nx [some (.fl (ns.map .int)),some (.ref a),some (.int n),some (.int m),some (.ref t),x5,some (.ref l),x7,some (.int mm),x9] g1 :=
  QM (by rw [Qx (ds:=[.fl (ns.map .int),.ref a]) (g':=g) rfl]; exact e)
 have v2:(mOpA pTup (Qa (mOp2 pMod (mOp2 Z1 (mVar 8) (mLit (.int 9))) (mVar 3)) (Qa (mOp2 pIx (mLit (.str (Str.ofString "lr"))) (mOp2 pMod (mOp2 Z1 (mVar 8) (mLit (.int 100))) (mLit (.int 2)))) (Qa (mOp2 pMod (mOp2 Z1 (mVar 8) (mLit (.int 300))) (mVar 2)) mNil)))) [some (.fl (ns.map .int)),some (.ref a),some (.int n),some (.int m),some (.ref t),x5,some (.ref l),x7,some (.int mm),x9] g1=.ok (.tup [.int (mm / 9 % m),.str w,.int (mm / 300 % n)]) g1:=by
  simp [mOpA,Qa,mNil,mOp2,mVar,mLit,Res.bind,Z1,pMod,hm',hn',hw,pTup,SZ,hm,hn]
 have s2:mAsg (gSet 9) (mOpA pTup (Qa (mOp2 pMod (mOp2 Z1 (mVar 8) (mLit (.int 9))) (mVar 3)) (Qa (mOp2 pIx (mLit (.str (Str.ofString "lr"))) (mOp2 pMod (mOp2 Z1 (mVar 8) (mLit (.int 100))) (mLit (.int 2)))) (Qa (mOp2 pMod (mOp2 Z1 (mVar 8) (mLit (.int 300))) (mVar 2)) mNil)))) [some (.fl (ns.map .int)),some (.ref a),some (.int n),some (.int m),some (.ref t),x5,some (.ref l),x7,some (.int mm),x9] g1=.nx [some (.fl (ns.map .int)),some (.ref a),some (.int n),some (.int m),some (.ref t),x5,some (.ref l),x7,some (.int mm),some (.tup [.int (mm / 9 % m),.str w,.int (mm / 300 % n)])] g1:=QM v2
 have t3:Qf (mOp2 pEq (mOp2 pMod (mVar 8) (mLit (.int 9))) (mLit (.int 0))) [some (.fl (ns.map .int)),some (.ref a),some (.int n),some (.int m),some (.ref t),x5,some (.ref l),x7,some (.int mm),some (.tup [.int (mm / 9 % m),.str w,.int (mm / 300 % n)])] g1=.ok (mm % 9 == 0) g1:=by
  simp [Qf,mOp2,mVar,mLit,Res.bind,pMod,eq_int]
 unfold Zo
 by_cases h9:mm % 9=0
 ·refine⟨.non,some (.int mm),.inl rfl,?_⟩
  rw [Ys s1,Ys s2,Ys (σ':=[some (.fl (ns.map .int)),some (.ref a),some (.int n),some (.int m),some (.ref t),x5,some (.ref l),x7,some (.int mm),some .non]) (g':=g1) ?_]
  ·exact Qbj rfl rfl gl1 hz
  ·rw [Qcr (g':=g1) (t3.trans (by simp [h9]))]; rfl
 ·refine⟨.tup [.int (mm / 9 % m),.str w,.int (mm / 300 % n)],some (.int mm),.inr ⟨_,_,w,rfl,Int.emod_nonneg _ (by omega),Int.emod_lt_of_pos _ hm',Int.emod_nonneg _ (by omega),Int.emod_lt_of_pos _ hn',ww⟩,?_⟩
  rw [Ys s1,Ys s2,Ys (σ':=[some (.fl (ns.map .int)),some (.ref a),some (.int n),some (.int m),some (.ref t),x5,some (.ref l),x7,some (.int mm),some (.tup [.int (mm / 9 % m),.str w,.int (mm / 300 % n)])]) (g':=g1) ?_]
  ·exact Qbj rfl rfl gl1 hz
  ·rw [Qc8 (g':=g1) (t3.trans (by simp [h9]))]; rfl
end L3
end
section
namespace L3
open PySem
theorem Qam {n:Nat} (h:n≤1000):n<SZ:=Nat.lt_of_le_of_lt h (by decide)
theorem QeM {n:Nat} (h:n≤1000):inR (n:Int):=by
 have:(n:Int)≤1000:=by exact_mod_cast h
 constructor <;> omega
theorem J5 {a:ME} {n:Nat} {σ:S3} {g g':G} (h:a σ g=.ok (.int n) g') (hr:inR (n:Int)):Zm a σ g=.ok (ZZ 0 n) g':=by
 unfold Zm; rw [h,Res.bind_ok]; dsimp only; rw [if_pos hr,Int.toNat_natCast]
theorem QbR {it:MI} {t:MG} {body:MS} {src:Src} {σ:S3} {g g':G} (h:it σ g=.ok src g'):mFor it t body σ g=forL src t body (src.top+1) 0 σ g':=by
 unfold mFor; rw [h]
theorem Qic (ns:List Int) (a l t:Nat) (k:Int) (n m:Nat) (x5 x7 x8 x9:Option D) (g:G) (hn:0<n) (hm:0<m) (hm8:m≤8) (ga:g[a]?=some (.lst [.int k])) (gl:g[l]?=some (.lst [])) (hal:a≠l) (hk:0≤k) (hk2:k+m<1000000000) :
  ∃ row y7 y8 y9 g',mFor (Zm (mVar 3)) (gSet 7) Zo [some (.fl (ns.map .int)),some (.ref a),some (.int n),some (.int m),some (.ref t),x5,some (.ref l),x7,x8,x9] g=.nx [some (.fl (ns.map .int)),some (.ref a),some (.int n),some (.int m),some (.ref t),x5,some (.ref l),y7,y8,y9] g' ∧
   row.length=m∧(∀ d∈row,entOk d n m)∧Keeps [a,l] g g'∧g'[a]?=some (.lst [.int (k+m)])∧g'[l]?=some (.lst row):=by
 have hr:inR (m:Int):=QeM (by omega)
 have hf:mFor (Zm (mVar 3)) (gSet 7) Zo [some (.fl (ns.map .int)),some (.ref a),some (.int n),some (.int m),some (.ref t),x5,some (.ref l),x7,x8,x9] g=forL (ZZ 0 m) (gSet 7) Zo (m+1) 0 [some (.fl (ns.map .int)),some (.ref a),some (.int n),some (.int m),some (.ref t),x5,some (.ref l),x7,x8,x9] g:=QbR (J5 rfl hr)
 rw [hf]
 obtain⟨σ',g',e,row,y7,y8,y9,h1,h2,h3,h4,h5,h6⟩:=JZ (t:=gSet 7) (body:=Zo) (lo:=0) (n:=m) (σ:=[some (.fl (ns.map .int)),some (.ref a),some (.int n),some (.int m),some (.ref t),x5,some (.ref l),x7,x8,x9]) (g:=g)
  (fun i σ g1=>∃ row y7 y8 y9,σ=[some (.fl (ns.map .int)),some (.ref a),some (.int n),some (.int m),some (.ref t),x5,some (.ref l),y7,y8,y9]∧row.length=i∧(∀ d∈row,entOk d n m)∧Keeps [a,l] g g1∧g1[a]?=some (.lst [.int (k+i)])∧g1[l]?=some (.lst row))
  ⟨[],x7,x8,x9,rfl,rfl,by simp,.refl,by simpa using ga,gl⟩ (fun i σ g1 hi ⟨row,y7,y8,y9,h1,h2,h3,h4,h5,h6⟩=>by
   subst h1
   obtain⟨d,x8',hd,e⟩:=Qg0 ns a l t (k+i) n m x5 (some (.int (0+i))) y8 y9 row g1 hn hm h5 h6 hal (by omega) (by omega) (Qam (by omega))
   refine⟨_,_,_,rfl,e,row++[d],_,x8',_,rfl,by simp [h2],?_,?_,?_,?_⟩
   ·intro x hx
    rcases List.mem_append.mp hx with z | z
    ·exact h3 x z
    ·rw [List.mem_singleton.mp z]; exact hd
   ·exact h4.trans (((Keeps.set a _).mono (by simp)).trans ((Keeps.set l _).mono (by simp)))
   ·rw [List.getElem?_set_ne (Ne.symm hal),Q4 h5]
    simp; omega
   ·refine Q4 (o:=.lst row) ?_
    rw [List.getElem?_set_ne hal]; exact h6)
 exact⟨row,y7,y8,y9,g',by rw [e,h1],h2,h3,h4,h5,h6⟩
end L3
end
section
namespace L3
open PySem
theorem om1 {a b c:Nat} (h1:a<b) (h2:b<c):a≠c:=by omega
theorem om2 {k x:Int} (h1:0≤k) (h2:0≤x):0≤k+x:=by omega
theorem om3 {k x:Int} {m:Nat} (h1:k<900000000) (h2:x≤96) (h3:m≤8):k+x+m<1000000000:=by omega
theorem om7 {a b c:Nat} {ds:List D} (h2:ds.length=a) (hi:a<b) (h3:b≤12):ds.length≤1000:=by omega
noncomputable def tabOf (N:Nat) (g:G) (t:Nat) (rows:List (List D)):Prop:=N≤t∧∃ ds,g[t]?=some (.lst ds)∧ds.length=rows.length∧∀(i:Nat) x r,ds[i]?=some x->rows[i]?=some r->∃ n,x=.ref n∧N≤n∧n≠t∧g[n]?=some (.lst r)
theorem tabOf.rows {N:Nat} {g:G} {t:Nat} {rows:List (List D)} (h:tabOf N g t rows):rowsOf g (.ref t) rows:=by
 obtain⟨_,ds,h1,h2,h3⟩:=h
 refine⟨true,ds,by simp [QG,h1],h2,fun i x r hx hr=>?_⟩
 obtain⟨n,rfl,_,_,h4⟩:=h3 i x r hx hr
 exact⟨true,by simp [QG,h4]⟩
theorem tabOf.mono {N:Nat} {S:List Nat} {g g1:G} {t:Nat} {rows:List (List D)} (h:tabOf N g t rows) (k:Keeps S g g1) (hS:∀ n∈S,n<N):tabOf N g1 t rows:=by
 obtain⟨h0,ds,h1,h2,h3⟩:=h
 refine⟨h0,ds,k.at' t _ (fun z=>by have:=hS t z; omega) h1,h2,fun i x r hx hr=>?_⟩
 obtain⟨n,h4,h5,h6,h7⟩:=h3 i x r hx hr
 exact⟨n,h4,h5,h6,k.at' n _ (fun z=>by have:=hS n z; omega) h7⟩
theorem Qid (ns:List Int) (a:Nat) (k:Int) (n m:Nat) (g:G) (hn:0<n) (hm:0<m) (hn12:n≤12) (hm8:m≤8) (ga:g[a]?=some (.lst [.int k])) (hk:0≤k) (hk2:k<900000000) :
  ∃ rows g',Qbe [.fl (ns.map .int),.ref a,.int n,.int m] g=.ok (.ref g.length) g'∧Keeps [a] g g'∧g'[a]?=some (.lst [.int (k+n*m)])∧tabOf g.length g' g.length rows∧rows.length=n∧(∀ r∈rows,r.length=m)∧∀ r∈rows,∀ d∈r,entOk d n m:=by
 have hr:inR (n:Int):=QeM (by omega)
 have hal:a<g.length:=ZF ga
 have hz0:([]:List D).length≤SZ:=by simp
 have s1:mAsg (gSet 4) (mOpA newL mNil) [some (.fl (ns.map .int)),some (.ref a),some (.int n),some (.int m),none,none,none,none,none,none] g=.nx [some (.fl (ns.map .int)),some (.ref a),some (.int n),some (.int m),some (.ref g.length),none,none,none,none,none] (g++[.lst []]) :=
  QM (by simp [mOpA,mNil,Res.bind,newL])
 have kp:Keeps [a] g (g++[.lst []]):=.push _
 have ga1:(g++[.lst []])[a]?=some (.lst [.int k]):=(Keeps.push (S:=[]) (.lst [])).at' a _ (by simp) ga
 have gt1:(g++[.lst []])[g.length]?=some (.lst []):=Zb _
 have hl1:g.length<(g++[GO.lst []]).length:=by simp
 generalize g++[.lst []]=g1 at s1 kp ga1 gt1 hl1
 obtain⟨σ',g',e,ds,rows,y5,y6,y7,y8,y9,h1,h2,h3,h4,h5,h6,h7,h8,h9⟩:=JZ (t:=gSet 5) (body:=Yz) (lo:=0) (n:=n) (σ:=[some (.fl (ns.map .int)),some (.ref a),some (.int n),some (.int m),some (.ref g.length),none,none,none,none,none]) (g:=g1)
  (fun i σ g2=>∃ ds rows y5 y6 y7 y8 y9,σ=[some (.fl (ns.map .int)),some (.ref a),some (.int n),some (.int m),some (.ref g.length),y5,y6,y7,y8,y9]∧ds.length=i∧rows.length=i∧Keeps [a,g.length] g1 g2∧g2[a]?=some (.lst [.int (k+i*m)])∧g2[g.length]?=some (.lst ds) ∧
   (∀(i:Nat) x r,ds[i]?=some x->rows[i]?=some r->∃ n,x=.ref n∧g.length<n∧g2[n]?=some (.lst r))∧(∀ r∈rows,r.length=m)∧∀ r∈rows,∀ d∈r,entOk d n m)
  ⟨[],[],none,none,none,none,none,rfl,rfl,rfl,.refl,by simpa using ga1,gt1,by simp,by simp,by simp⟩ (fun i σ g2 hi ⟨ds,rows,y5,y6,y7,y8,y9,h1,h2,h3,h4,h5,h6,h7,h8,h9⟩=>by
   subst h1
   have hl2:g.length<g2.length:=ZF h6
   have q1:mAsg (gSet 6) (mOpA newL mNil) [some (.fl (ns.map .int)),some (.ref a),some (.int n),some (.int m),some (.ref g.length),some (.int (0+i)),y6,y7,y8,y9] g2=.nx [some (.fl (ns.map .int)),some (.ref a),some (.int n),some (.int m),some (.ref g.length),some (.int (0+i)),some (.ref g2.length),y7,y8,y9] (g2++[.lst []]) :=
    QM (by simp [mOpA,mNil,Res.bind,newL])
   have k3:Keeps [] g2 (g2++[.lst []]):=.push _
   have gl3:(g2++[.lst []])[g2.length]?=some (.lst []):=Zb _
   generalize g2++[.lst []]=g3 at q1 k3 gl3
   have him:(i:Int)*m≤96:=by
    have:i*m≤12*8:=Nat.mul_le_mul (by omega) hm8
    exact_mod_cast this
   have him0:(0:Int)≤(i:Int)*m:=Int.mul_nonneg (by omega) (by omega)
   obtain⟨row,z7,z8,z9,g4,e4,r1,r2,r3,r4,r5⟩:=Qic ns a g2.length g.length (k+i*m) n m (some (.int (0+i))) y7 y8 y9 g3 hn hm hm8 (k3.at' a _ (by simp) h5) gl3 (om1 hal hl2) (om2 hk him0) (om3 hk2 him hm8)
   have gt4:g4[g.length]?=some (.lst ds):=r3.at' _ _ (by simp; omega) (k3.at' _ _ (by simp) h6)
   refine⟨_,[some (.fl (ns.map .int)),some (.ref a),some (.int n),some (.int m),some (.ref g.length),some (.int (0+i)),some (.ref g2.length),z7,z8,z9],g4.set g.length (.lst (ds++[.ref g2.length])),rfl,?_,ds++[.ref g2.length],rows++[row],_,_,z7,z8,z9,rfl,by simp [h2],by simp [h3],?_,?_,?_,?_,?_,?_⟩
   ·show Yz [some (.fl (ns.map .int)),some (.ref a),some (.int n),some (.int m),some (.ref g.length),some (.int (0+i)),y6,y7,y8,y9] g2=_
    unfold Yz
    rw [Ys q1,Ys e4]
    exact Qbj rfl rfl gt4 (Qam (om7 (c:=0) h2 hi hn12))
   ·refine⟨by rw [List.length_set]; exact Nat.le_trans h4.len (Nat.le_trans k3.len r3.len),fun b o hb eb=>?_⟩
    have hb':b≠a∧b≠g.length:=by simpa using hb
    have e2:=h4.at' b o hb eb
    have:b<g2.length:=ZF e2
    rw [List.getElem?_set_ne (Ne.symm hb'.2)]
    exact r3.at' b o (by simp; omega) (k3.at' b o (by simp) e2)
   ·rw [List.getElem?_set_ne (by omega),r4]
    have:k+(i:Int)*m+m=k+((i+1:Nat):Int)*m:=by
     rw [Int.natCast_add,Int.add_mul]; simp; omega
    rw [this]
   ·exact Q4 gt4
   ·intro j x r hx hr'
    have key:∀ b o,g.length<b->g2[b]?=some o->(g4.set g.length (.lst (ds++[.ref g2.length])))[b]?=some o:=fun b o hb eb=>by
     have:b<g2.length:=ZF eb
     rw [List.getElem?_set_ne (by omega)]
     exact r3.at' b o (by simp; omega) (k3.at' b o (by simp) eb)
    by_cases hj:j<i
    ·rw [List.getElem?_append_left (by omega)] at hx hr'
     obtain⟨b,hb1,hb2,hb3⟩:=h7 j x r hx hr'
     exact⟨b,hb1,hb2,key b _ hb2 hb3⟩
    ·have hji:j=i:=by
      have:=(List.getElem?_eq_some_iff.mp hx).1
      simp at this; omega
     subst hji
     rw [List.getElem?_append_right (by omega),h2] at hx
     rw [List.getElem?_append_right (by omega),h3] at hr'
     simp at hx hr'
     subst hx hr'
     exact⟨g2.length,rfl,hl2,by rw [List.getElem?_set_ne (by omega)]; exact r5⟩
   ·intro r hr'
    rcases List.mem_append.mp hr' with z | z
    ·exact h8 r z
    ·rw [List.mem_singleton.mp z]; exact r1
   ·intro r hr'
    rcases List.mem_append.mp hr' with z | z
    ·exact h9 r z
    ·rw [List.mem_singleton.mp z]; exact r2)
 refine⟨rows,g',?_,?_,h5,⟨Nat.le_refl _,ds,h6,by omega,fun i x r hx hr'=>?_⟩,h3,h8,h9⟩
 ·refine ZG rfl ?_
  show Qbd [some (.fl (ns.map .int)),some (.ref a),some (.int n),some (.int m),none,none,none,none,none,none] g=_
  unfold Qbd
  rw [Ys s1,Ys (σ':=σ') (g':=g') ?_]
  ·subst h1; rfl
  ·rw [← e]
   exact QbR (J5 rfl hr)
 ·refine⟨Nat.le_trans kp.len h4.len,fun b o hb eb=>?_⟩
  have:b<g.length:=ZF eb
  exact h4.at' b o (by simp at hb ⊢; omega) (kp.at' b o hb eb)
 ·obtain⟨b,hb1,hb2,hb3⟩:=h7 i x r hx hr'
  exact⟨b,hb1,by omega,by omega,hb3⟩
end L3
end
section
namespace L3
open PySem
theorem Qg {a b:MS} {σ:S3} {g:G} {R:Out} (σ':S3) (g':G) (h:a σ g=.nx σ' g') (h2:b σ' g'=R):mSeq a b σ g=R:=(Ys h).trans h2
theorem ift {c:MT} {a b:MS} {σ:S3} {g:G} {R:Out} (g':G) (h:c σ g=.ok true g') (h2:a σ g'=R):mIf c a b σ g=R:=(Qcr h).trans h2
theorem iff' {c:MT} {a b:MS} {σ:S3} {g:G} {R:Out} (g':G) (h:c σ g=.ok false g') (h2:b σ g'=R):mIf c a b σ g=R:=(Qc8 h).trans h2
end L3
end
section
namespace L3
open PySem
theorem modP {i j:Int} {g:G} (h:0<j):pMod (.int i) (.int j) g=.ok (.int (i % j)) g:=if_pos h
theorem divP {i j:Int} {g:G} (h:0<j) (h2:j≤1000000):Z1 (.int i) (.int j) g=.ok (.int (i / j)) g:=if_pos ⟨h,by omega⟩
theorem QbS {k n:Nat} {b:MS} {ds:List D} {σ:S3} {g g':G} (hl:ds.length=k) (h:b (ds.map some++List.replicate n none) g=.nx σ g'):mDef k n b ds g=.ok .non g':=by unfold mDef; rw [if_pos hl,h]
theorem J7 {k n:Nat} {b:MS} {ds:List D} {x:Xc} {σ:S3} {g g':G} (hl:ds.length=k) (h:b (ds.map some++List.replicate n none) g=.raise x σ g'):mDef k n b ds g=.raise x g':=by unfold mDef; rw [if_pos hl,h]
theorem Ql {f:D->D->G->Res D} {a b:ME} {σ:S3} {x y:D} {g g1 g2:G} {R:Res D} (ha:a σ g=.ok x g1) (hb:b σ g1=.ok y g2) (h:f x y g2=R):mOp2 f a b σ g=R:=by unfold mOp2; rw [ha,Res.bind_ok,hb,Res.bind_ok,h]
theorem Zu {f:D->G->Res D} {a:ME} {σ:S3} {x:D} {g g1:G} {R:Res D} (ha:a σ g=.ok x g1) (h:f x g1=R):mOp1 f a σ g=R:=by unfold mOp1; rw [ha,Res.bind_ok,h]
theorem QT {a:ME} {σ:S3} {b:Bool} {g g1:G} (ha:a σ g=.ok (.bl b) g1):Qf a σ g=.ok b g1:=by unfold Qf; rw [ha,Res.bind_ok]
theorem Qj {a:ME} {r:MA} {x:D} {xs:List D} {σ:S3} {g g1 g2:G} (h:a σ g=.ok x g1) (h2:r σ g1=.ok xs g2):Qa a r σ g=.ok (x::xs) g2:=by
 unfold Qa; rw [h,Res.bind_ok,h2]; rfl
theorem Qc9 {n:Nat} {ds:List D} {y:D} {σ:S3} {g:G} {o e:ME} (ho:o σ g=.ok (.ref n) g) (h:g[n]?=some (.lst ds)) (he:e σ g=.ok y g) (hz:ds.length<SZ) :
  ZA (ZO o e) σ g=.nx σ (g.set n (.lst (ds++[y]))):=by
 refine YV (d:=.non) ?_
 simp [ZO,ho,he,Res.bind,h,hz]
theorem entOk.good {rows:List (List D)} {n m:Nat} (hn:0<n) (hm:0<m) (h1:rows.length=n) (h2:∀ r∈rows,r.length=m) (h3:∀ r∈rows,∀ d∈r,entOk d n m):J4 rows=true:=by
 cases rows with
 | nil=>simp at h1; omega
 | cons q rest =>
  have hq:=h2 q (List.mem_cons_self ..)
  unfold J4
  rw [Bool.and_eq_true,List.all_eq_true]
  refine⟨by simp; intro z; rw [z] at hq; simp at hq; omega,fun x hx=>?_⟩
  unfold Yr
  rw [Bool.and_eq_true,List.all_eq_true]
  exact⟨by simp [h2 x hx,hq],fun d hd=>by rw [h1,hq]; exact(h3 x hx d hd).ent⟩
theorem Qcs {it:MI} {n:Nat} {cap:List Nat} {t:MG} {c:MT} {e:ME} {σ:S3} {g g1 g2:G} {src:Src} {ds:List D} {σ0:S3} (h1:it σ g=.ok src g1) (hz:src.top≤SZ) (hc:capt n cap σ=σ0) (h2:YR src t c e (src.top+1) 0 σ0 g1 []=.ok ds g2):Y0 it n cap t c e σ g=.ok (.ref g2.length) (g2++[.lst ds]):=by
 simp only [Y0,h1,hz,hc,h2,if_true]
theorem Qfs {M:Nat} {rows:List (List D)} {σ:S3} {g:G} {i:Nat} (hv:σ[i]?=some (some (.ref M))) (h:g[M]?=some (JN rows)):QF [11,12] (Str.ofString "table") (mVar i) σ g=.ok (.tup (rows.map .tup)) g:=by
 simp [QF,mOp1,mVar,hv,Res.bind,h,JN]
theorem Qkf {g:G} {d1 d2:D} {b1 b2:Bool} {xs ys:List D} (h1:QG g d1=some (b1,xs)) (h2:QG g d2=some (b2,ys)) (hl:xs.length=ys.length) :
  ∃ src,QbH d1 d2 g=.ok src g∧src.top=xs.length∧∀ g1,QG g1 d1=some (b1,xs)->QG g1 d2=some (b2,ys)->src.at' g1 xs.length=some none∧∀(i:Nat) x y,xs[i]?=some x->ys[i]?=some y->src.at' g1 i=some (some (.tup [x,y])):=by
 unfold QbH
 rw [h1,h2]
 refine⟨_,rfl,by simp [hl],fun g1 q1 q2=>⟨?_,fun i x y hx hy=>?_⟩⟩
 ·dsimp only; rw [q1,q2]; dsimp only; rw [List.getElem?_eq_none (Nat.le_refl _)]
 ·dsimp only; rw [q1,q2]; dsimp only; rw [hx,hy]
theorem QbT {a:MT} {σ:S3} {g g1:G} (h1:a σ g=.ok true g1):YZ a σ g=.ok false g1:=by unfold YZ; rw [h1]; rfl
end L3
end
section
namespace L3
open PySem
noncomputable def rS:Str:=⟨#[114]⟩
noncomputable def lS:Str:=⟨#[108]⟩
theorem QdY {a b:MT} {σ:S3} {g g1 g2:G} (h1:a σ g=.ok false g1) (h2:b σ g1=.ok false g2):mOrT a b σ g=.ok false g2:=by
 unfold mOrT; rw [h1,Res.bind_ok,if_neg Bool.false_ne_true,h2]
theorem Qda {t p:Nat} {ds:List D} {d:D} {g:G} (h:g[t]?=some (.lst ds)) (hp:ds[p]?=some d):pIx (.ref t) (.int p) g=.ok d g:=by
 have hl:p<ds.length:=(List.getElem?_eq_some_iff.mp hp).1
 unfold pIx; dsimp only; rw [h]; dsimp only
 unfold atD ixD
 rw [if_pos (by omega),if_pos (by omega)]
 simp [hp]
theorem Ql6 {t:Nat} {i:Int} {ds:List D} {d:D} {g:G} (h:g[t]?=some (.lst ds)) (h0:0≤i) (hp:ds[i.toNat]?=some d):pIx (.ref t) (.int i) g=.ok d g:=by
 have e:((i.toNat:Nat):Int)=i:=by omega
 rw [← e]; exact Qda h hp
theorem Qg1 {g:G} {l:Nat} {ds:List D} (h:g[l]?=some (.lst ds)):QG g (.ref l)=some (true,ds):=by unfold QG; dsimp only; rw [h]
end L3
end
section
namespace L3
open PySem
theorem Zh:Str.ofString "state" = ⟨#[115,116,97,116,101]⟩:=by decide +kernel
theorem Zi:Str.ofString "place" = ⟨#[112,108,97,99,101]⟩:=by decide +kernel
theorem Qp:Str.ofString "left_marks" = ⟨#[108,101,102,116,95,109,97,114,107,115]⟩:=by decide +kernel
theorem Qm:Str.ofString "right_marks" = ⟨#[114,105,103,104,116,95,109,97,114,107,115]⟩:=by decide +kernel
theorem Qdb:Str.ofString "is_on_mark" = ⟨#[105,115,95,111,110,95,109,97,114,107]⟩:=by decide +kernel
theorem Qkg:Str.ofString "entry" = ⟨#[101,110,116,114,121]⟩:=by decide +kernel
theorem Qkh:Str.ofString "write" = ⟨#[119,114,105,116,101]⟩:=by decide +kernel
theorem Qft:Str.ofString "go_right" = ⟨#[103,111,95,114,105,103,104,116]⟩:=by decide +kernel
theorem Qg2:Str.ofString "go_left" = ⟨#[103,111,95,108,101,102,116]⟩:=by decide +kernel
theorem Qg3:Str.ofString "stepped" = ⟨#[115,116,101,112,112,101,100]⟩:=by decide +kernel
theorem QmM:Str.ofString "run" = ⟨#[114,117,110]⟩:=by decide +kernel
theorem Ql7:Str.ofString "shot" = ⟨#[115,104,111,116]⟩:=by decide +kernel
noncomputable def Zj (t s p l r:D):List (Str×D):=[(Str.ofString "table",t),(Str.ofString "state",s),(Str.ofString "place",p),(Str.ofString "left_marks",l),(Str.ofString "right_marks",r)]
theorem Qie (t s p l r:D):(Zj t s p l r).lookup (Str.ofString "table")=some t:=by
 unfold Zj; rw [Zg,Zh,Zi,Qp,Qm]; rfl
theorem Qif (t s p l r:D):(Zj t s p l r).lookup (Str.ofString "state")=some s:=by
 unfold Zj; rw [Zg,Zh,Zi,Qp,Qm]; rfl
theorem Qig (t s p l r v:D):putG (Str.ofString "state") v (Zj t s p l r)=Zj t v p l r:=by
 unfold Zj; rw [Zg,Zh,Zi,Qp,Qm]; rfl
theorem Qih (t s p l r:D):(Zj t s p l r).lookup (Str.ofString "place")=some p:=by
 unfold Zj; rw [Zg,Zh,Zi,Qp,Qm]; rfl
theorem Qii (t s p l r v:D):putG (Str.ofString "place") v (Zj t s p l r)=Zj t s v l r:=by
 unfold Zj; rw [Zg,Zh,Zi,Qp,Qm]; rfl
theorem Qct (t s p l r:D):(Zj t s p l r).lookup (Str.ofString "left_marks")=some l:=by
 unfold Zj; rw [Zg,Zh,Zi,Qp,Qm]; rfl
theorem QbA (t s p l r:D):(Zj t s p l r).lookup (Str.ofString "right_marks")=some r:=by
 unfold Zj; rw [Zg,Zh,Zi,Qp,Qm]; rfl
theorem Qcu (t s p l r:D):(Zj t s p l r).lookup (Str.ofString "is_on_mark")=none:=by
 unfold Zj; rw [Zg,Zh,Zi,Qp,Qm,Qdb]; rfl
theorem Qij (t s p l r:D):(Zj t s p l r).lookup (Str.ofString "entry")=none:=by
 unfold Zj; rw [Zg,Zh,Zi,Qp,Qm,Qkg]; rfl
theorem Qik (t s p l r:D):(Zj t s p l r).lookup (Str.ofString "write")=none:=by
 unfold Zj; rw [Zg,Zh,Zi,Qp,Qm,Qkh]; rfl
theorem QdZ (t s p l r:D):(Zj t s p l r).lookup (Str.ofString "go_right")=none:=by
 unfold Zj; rw [Zg,Zh,Zi,Qp,Qm,Qft]; rfl
theorem Qfu (t s p l r:D):(Zj t s p l r).lookup (Str.ofString "go_left")=none:=by
 unfold Zj; rw [Zg,Zh,Zi,Qp,Qm,Qg2]; rfl
theorem Qfv (t s p l r:D):(Zj t s p l r).lookup (Str.ofString "stepped")=none:=by
 unfold Zj; rw [Zg,Zh,Zi,Qp,Qm,Qg3]; rfl
theorem Ql8 (t s p l r:D):(Zj t s p l r).lookup (Str.ofString "run")=none:=by
 unfold Zj; rw [Zg,Zh,Zi,Qp,Qm,QmM]; rfl
theorem Qki (t s p l r:D):(Zj t s p l r).lookup (Str.ofString "shot")=none:=by
 unfold Zj; rw [Zg,Zh,Zi,Qp,Qm,Ql7]; rfl
noncomputable def mkD (L:List (Int×Nat)):List D:=L.map fun p=>D.tup [.int p.1,.int (p.2:Nat)]
noncomputable def Qbk (rows:List (List D)) (st:Nat) (pl:Int) (l r:Nat):GO:=.ins 12 (Zj (.tup (rows.map .tup)) (.int st) (.int pl) (.ref l) (.ref r))
structure WRep (rows:List (List D)) (w l r:Nat) (g:G) (st:Nat) (pl:Int) (L R:List (Int×Nat)):Prop where
 w':g[w]?=some (Qbk rows st pl l r)
 l':g[l]?=some (.lst (mkD L))
 r':g[r]?=some (.lst (mkD R))
 wl:w≠l
 wr:w≠r
 lr:l≠r
section
variable {rows:List (List D)} {w l r:Nat} {g:G} {st:Nat} {pl:Int} {L R:List (Int×Nat)} {σ:S3} {i:Nat}
theorem JO {f:Str} {c:Nat} {cs:List Nat} {fs:List (Str×D)} {d:D} (hv:σ[i]?=some (some (.ref w))) (h:g[w]?=some (.ins c fs)) (hc:c∈cs) (hf:fs.lookup f=some d):QF cs f (mVar i) σ g=.ok d g:=by
 unfold QF mOp1 mVar
 rw [hv]
 dsimp only
 rw [Res.bind_ok]
 dsimp only
 rw [h]
 dsimp only
 rw [if_pos hc,hf]
theorem WRep.place (W:WRep rows w l r g st pl L R) (hv:σ[i]?=some (some (.ref w))):QF [12] (Str.ofString "place") (mVar i) σ g=.ok (.int pl) g:=JO hv W.w' (by simp) (Qih ..)
theorem WRep.state (W:WRep rows w l r g st pl L R) (hv:σ[i]?=some (some (.ref w))):QF [12] (Str.ofString "state") (mVar i) σ g=.ok (.int st) g:=JO hv W.w' (by simp) (Qif ..)
theorem WRep.table (W:WRep rows w l r g st pl L R) (hv:σ[i]?=some (some (.ref w))):QF [11,12] (Str.ofString "table") (mVar i) σ g=.ok (.tup (rows.map .tup)) g:=JO hv W.w' (by simp) (Qie ..)
theorem WRep.left (W:WRep rows w l r g st pl L R) (hv:σ[i]?=some (some (.ref w))):QF [12] (Str.ofString "left_marks") (mVar i) σ g=.ok (.ref l) g:=JO hv W.w' (by simp) (Qct ..)
theorem WRep.right (W:WRep rows w l r g st pl L R) (hv:σ[i]?=some (some (.ref w))):QF [12] (Str.ofString "right_marks") (mVar i) σ g=.ok (.ref r) g:=JO hv W.w' (by simp) (QbA ..)
theorem Jd {m:Str} {f:MF} {a:MA} {xs:List D} {g2:G} {fs:List (Str×D)} (hv:σ[i]?=some (some (.ref w))) (h:g[w]?=some (.ins 12 fs)) (hm:fs.lookup m=none) (ha:a σ g=.ok xs g2):Z8 12 m f (mVar i) a σ g=f (.ref w::xs) g2:=by
 unfold Z8 mVar
 rw [hv]
 dsimp only
 rw [Res.bind_ok]
 dsimp only
 rw [h]
 dsimp only
 rw [if_pos ⟨rfl,hm⟩,ha,Res.bind_ok]
noncomputable def Qo (L:List (Int×Nat)) (x:Int):Option Nat:=match L.getLast? with
 | some (y,s)=>if y=x then some s else none
 | none=>none
theorem ZT (L:List (Int×Nat)):(mkD L).length=L.length:=by simp [mkD]
theorem Qil {L:List (Int×Nat)} {p:Int×Nat} (h:L.getLast?=some p):atD (mkD L) (-1)=some (.tup [.int p.1,.int (p.2:Nat)]):=by
 have hne:L≠[]:=fun z=>by rw [z] at h; cases h
 have hpos:0<L.length:=List.length_pos_iff.mpr hne
 unfold atD ixD
 rw [if_neg (by decide),ZT,if_pos (by omega)]
 show(mkD L)[((-1:Int)+(L.length:Int)).toNat]?=_
 rw [show((-1:Int)+(L.length:Int)).toNat=L.length - 1 by omega]
 rw [List.getLast?_eq_getElem?] at h
 simp [mkD,h]
theorem Qim {L:List (Int×Nat)} (h:L.getLast?=none):L=[]:=by simpa using h
theorem Qi7 {x:Nat} {L:List (Int×Nat)} {a:ME} (ha:a σ g=.ok (.ref x) g) (hx:g[x]?=some (.lst (mkD L))):mOp2 pGt (mOp1 pLen a) (mLit (.int 0)) σ g=.ok (.bl (decide (0<L.length))) g:=by
 refine Ql (x:=.int L.length) (g1:=g) (Zu ha (by simp [pLen,hx,ZT])) rfl ?_
 show Res.ok (D.bl (decide ((0:Int)<(L.length:Int)))) g=_
 rw [show decide ((0:Int)<(L.length:Int))=decide (0<L.length) from decide_eq_decide.mpr (by omega)]
theorem QbU {x:Nat} {L:List (Int×Nat)} {p:Int×Nat} {a:ME} {k:Int} (ha:a σ g=.ok (.ref x) g) (hx:g[x]?=some (.lst (mkD L))) (h:L.getLast?=some p) (hk:k=0∨k=1):mOp2 pIx (mOp2 pIx a (mOp1 pNeg (mLit (.int 1)))) (mLit (.int k)) σ g=.ok (.int (if k=0 then p.1 else (p.2:Nat))) g:=by
 refine Ql (x:=.tup [.int p.1,.int (p.2:Nat)]) (g1:=g) (Ql (x:=.ref x) (y:=.int (-1)) (g1:=g) (g2:=g) ha rfl ?_) rfl ?_
 ·unfold pIx; dsimp only; rw [hx]; dsimp only; rw [Qil h]
 ·rcases hk with rfl | rfl <;> rfl
theorem Qg4 {x:Nat} {L:List (Int×Nat)} {a b:ME} {y:Int} (ha:a σ g=.ok (.ref x) g) (hx:g[x]?=some (.lst (mkD L))) (hb:b σ g=.ok (.int y) g) :
  mAnd (mOp2 pGt (mOp1 pLen a) (mLit (.int 0))) (mOp2 pEq (mOp2 pIx (mOp2 pIx a (mOp1 pNeg (mLit (.int 1)))) (mLit (.int 0))) b) σ g=.ok (.bl (Qo L y).isSome) g:=by
 unfold mAnd
 rw [Qi7 ha hx,Res.bind_ok]
 dsimp only
 cases h:L.getLast? with
 | none =>
  have:=Qim h
  subst this
  rfl
 | some p =>
  have hne:L≠[]:=fun z=>by rw [z] at h; cases h
  rw [decide_eq_true (List.length_pos_iff.mpr hne),if_pos rfl,Ql (QbU ha hx h (.inl rfl)) hb rfl,if_pos rfl,eq_int]
  unfold Qo
  rw [h]
  obtain⟨z,s⟩:=p
  dsimp only
  by_cases e:z=y
  ·rw [if_pos e,e]; simp
  ·rw [if_neg e,beq_eq_false_iff_ne.mpr e]; rfl
theorem Qfw (W:WRep rows w l r g st pl L R):Qy [.ref w] g=.ok (.bl (Qo R pl).isSome) g :=
 ZG rfl (ZS (Qg4 (W.right rfl) W.r' (W.place rfl)))
theorem Qbl (W:WRep rows w l r g st pl L R) (hv:σ[i]?=some (some (.ref w))):Qf (Z8 12 (Str.ofString "is_on_mark") Qy (mVar i) mNil) σ g=.ok (Qo R pl).isSome g :=
 QT (by rw [Jd hv W.w' (Qcu ..) rfl]; exact Qfw W)
theorem Qin {row:List D} {d:D} (W:WRep rows w l r g st pl L R) (hr:rows[st]?=some row) (hd:row[(Qo R pl).getD 0]?=some d):Yx [.ref w] g=.ok d g:=by
 have hst:st<rows.length:=(List.getElem?_eq_some_iff.mp hr).1
 have hs:(Qo R pl).getD 0<row.length:=(List.getElem?_eq_some_iff.mp hd).1
 refine ZG rfl ?_
 show Jb [some (.ref w),none] g=_
 unfold Jb
 refine Qg [some (.ref w),some (.int ((Qo R pl).getD 0:Nat))] g (QM ?_) (ZS ?_)
 ·unfold mIfE
  rw [Qbl W rfl,Res.bind_ok]
  cases h:Qo R pl with
  | none=>rfl
  | some s =>
   have hl:R.getLast?=some (pl,s):=by
    unfold Qo at h
    cases hq:R.getLast? with
    | none=>rw [hq] at h; cases h
    | some p =>
     obtain⟨z,s'⟩:=p
     rw [hq] at h
     dsimp only at h
     by_cases e:z=pl
     ·rw [if_pos e] at h; cases h; rw [e]
     ·rw [if_neg e] at h; cases h
   rw [show(some s).isSome=true from rfl,if_pos rfl,QbU (W.right rfl) W.r' hl (.inr rfl)]; rfl
 ·have e1:pIx (.tup (rows.map .tup)) (.int st) g=.ok (.tup row) g:=by
   unfold pIx; dsimp only
   unfold atD ixD
   rw [if_pos (by omega),if_pos (by simp; omega)]
   simp [hr]
  have e2:pIx (.tup row) (.int ((Qo R pl).getD 0:Nat)) g=.ok d g:=by
   unfold pIx; dsimp only
   unfold atD ixD
   rw [if_pos (by omega),if_pos (by omega)]
   simp [hd]
  exact Ql (Ql (W.table rfl) (W.state rfl) e1) rfl e2
end
end L3
end
section
namespace L3
open PySem
section
variable {rows:List (List D)} {w l r:Nat} {g:G} {st:Nat} {pl:Int} {L R:List (Int×Nat)} {σ:S3} {i:Nat}
theorem Je {R:List (Int×Nat)} {pl:Int} {s:Nat} (h:Qo R pl=some s):R.getLast?=some (pl,s):=by
 unfold Qo at h
 cases hq:R.getLast? with
 | none=>rw [hq] at h; cases h
 | some p =>
  obtain⟨z,s'⟩:=p
  rw [hq] at h
  dsimp only at h
  by_cases e:z=pl
  ·rw [if_pos e] at h; cases h; rw [e]
  ·rw [if_neg e] at h; cases h
theorem Qg5 {x:Nat} {p:Int×Nat} {a:ME} (ha:a σ g=.ok (.ref x) g) (hx:g[x]?=some (.lst (mkD L))) (h:L.getLast?=some p):mOp1 pPop a σ g=.ok (.tup [.int p.1,.int (p.2:Nat)]) (g.set x (.lst (mkD L.dropLast))):=by
 refine Zu ha ?_
 unfold pPop
 dsimp only
 rw [hx]
 dsimp only
 have e:(mkD L)[(mkD L).length - 1]?=some (.tup [.int p.1,.int (p.2:Nat)]):=by
  rw [List.getLast?_eq_getElem?] at h
  rw [ZT]
  simp [mkD,h]
 rw [e]
 dsimp only
 have:(mkD L).dropLast=mkD L.dropLast:=by simp [mkD,List.map_dropLast]
 rw [this]
theorem QeN (L:List (Int×Nat)) (x:Int) (s:Nat):mkD L++[.tup [.int x,.int s]]=mkD (L++[(x,s)]):=by simp [mkD]
theorem WRep.setR {R':List (Int×Nat)} (W:WRep rows w l r g st pl L R):WRep rows w l r (g.set r (.lst (mkD R'))) st pl L R' :=
 ⟨by rw [List.getElem?_set_ne (Ne.symm W.wr)]; exact W.w',by rw [List.getElem?_set_ne (Ne.symm W.lr)]; exact W.l',Q4 W.r',W.wl,W.wr,W.lr⟩
theorem WRep.setL {L':List (Int×Nat)} (W:WRep rows w l r g st pl L R):WRep rows w l r (g.set l (.lst (mkD L'))) st pl L' R :=
 ⟨by rw [List.getElem?_set_ne (Ne.symm W.wl)]; exact W.w',Q4 W.l',by rw [List.getElem?_set_ne W.lr]; exact W.r',W.wl,W.wr,W.lr⟩
theorem WRep.setW {st':Nat} {pl':Int} (W:WRep rows w l r g st pl L R):WRep rows w l r (g.set w (Qbk rows st' pl' l r)) st' pl' L R :=
 ⟨Q4 W.w',by rw [List.getElem?_set_ne W.wl]; exact W.l',by rw [List.getElem?_set_ne W.wr]; exact W.r',W.wl,W.wr,W.lr⟩
noncomputable abbrev KW (w l r:Nat) (g g':G):Prop:=Keeps [w,l,r] g g'
theorem J8 {w l r x:Nat} {g:G} {o:GO} (h:x=w∨x=l∨x=r):KW w l r g (g.set x o):=(Keeps.set x o).mono fun n hn=>by
 rw [List.mem_singleton.mp hn]
 rcases h with rfl | rfl | rfl <;> simp
noncomputable def Zl (R:List (Int×Nat)) (pl:Int):List (Int×Nat):=if (Qo R pl).isSome=true then R.dropLast else R
noncomputable def wrt (R:List (Int×Nat)) (pl:Int) (s:Nat):List (Int×Nat):=Zl R pl++(if s=0 then [] else [(pl,s)])
theorem Qio {s:Nat} (W:WRep rows w l r g st pl L R) (hz:R.length<1000):∃ g',Yy [.ref w,.int s] g=.ok .non g'∧WRep rows w l r g' st pl L (wrt R pl s)∧KW w l r g g':=by
 have a1:∃ g1,mIf (Qf (Z8 12 (Str.ofString "is_on_mark") Qy (mVar 0) mNil)) (ZA (mOp1 pPop (QF [12] (Str.ofString "right_marks") (mVar 0)))) QB [some (.ref w),some (.int s)] g=.nx [some (.ref w),some (.int s)] g1∧WRep rows w l r g1 st pl L (Zl R pl)∧KW w l r g g1:=by
  unfold Zl
  cases h:Qo R pl with
  | none=>exact⟨g,iff' g ((Qbl W rfl).trans (by rw [h]; rfl)) rfl,by simpa using W,.refl⟩
  | some s'=>exact⟨_,ift g ((Qbl W rfl).trans (by rw [h]; rfl)) (YV (Qg5 (W.right rfl) W.r' (Je h))),by simpa using W.setR,J8 (.inr (.inr rfl))⟩
 obtain⟨g1,e1,W1,k1⟩:=a1
 have hz1:(Zl R pl).length<1000:=by
  unfold Zl
  split
  ·rw [List.length_dropLast]; omega
  ·exact hz
 by_cases hs:s=0
 ·refine⟨g1,QbS (σ:=[some (.ref w),some (.int s)]) rfl ?_,by unfold wrt; rw [if_pos hs,List.append_nil]; exact W1,k1⟩
  show Z2 [some (.ref w),some (.int s)] g=_
  unfold Z2
  exact Qg _ _ e1 (iff' g1 (QT (Ql (x:=.int s) (y:=.int 0) (g1:=g1) (g2:=g1) rfl rfl (by rw [ne_int,hs]; rfl))) rfl)
 ·refine⟨g1.set r (.lst (mkD (Zl R pl++[(pl,s)]))),QbS (σ:=[some (.ref w),some (.int s)]) rfl ?_,by unfold wrt; rw [if_neg hs]; exact W1.setR,k1.trans (J8 (.inr (.inr rfl)))⟩
  show Z2 [some (.ref w),some (.int s)] g=_
  unfold Z2
  refine Qg _ _ e1 (ift g1 (QT (Ql (x:=.int s) (y:=.int 0) (g1:=g1) (g2:=g1) rfl rfl (by rw [ne_int,beq_eq_false_iff_ne.mpr (by omega)]; rfl))) ?_)
  rw [← QeN]
  refine Qc9 (W1.right rfl) W1.r' ?_ (Qam (by rw [ZT]; omega))
  have:(Qa (QF [12] (Str.ofString "place") (mVar 0)) (Qa (mVar 1) mNil)) [some (.ref w),some (.int s)] g1=.ok [.int pl,.int s] g1:=Qj (W1.place rfl) rfl
  unfold mOpA
  rw [this,Res.bind_ok]; rfl
theorem QeO {e:ME} {v:Int} (W:WRep rows w l r g st pl L R) (hv:σ[0]?=some (some (.ref w))) (he:e σ g=.ok (.int v) g):QN [12] (Str.ofString "place") (mVar 0) e σ g=.nx σ (g.set w (Qbk rows st v l r)):=by
 unfold QN mVar
 rw [he]
 dsimp only
 rw [hv]
 dsimp only
 rw [W.w']
 unfold Qbk
 dsimp only
 rw [if_pos ⟨by simp,by simp [Zj]⟩,Qii]
theorem Qip {e:ME} {v:Nat} (W:WRep rows w l r g st pl L R) (hv:σ[0]?=some (some (.ref w))) (he:e σ g=.ok (.int v) g):QN [12] (Str.ofString "state") (mVar 0) e σ g=.nx σ (g.set w (Qbk rows v pl l r)):=by
 unfold QN mVar
 rw [he]
 dsimp only
 rw [hv]
 dsimp only
 rw [W.w']
 unfold Qbk
 dsimp only
 rw [if_pos ⟨by simp,by simp [Zj]⟩,Qig]
noncomputable def Z5 (L:List (Int×Nat)) (x:Int):Option Nat->List (Int×Nat)
 | some s=>L++[(x,s)]
 | none=>L
theorem QeP {x y:Nat} {A B:List (Int×Nat)} {p:Int×Nat} {o a:ME} (ho:o σ g=.ok (.ref x) g) (ha:a σ g=.ok (.ref y) g) (hx:g[x]?=some (.lst (mkD A))) (hy:g[y]?=some (.lst (mkD B))) (hxy:x≠y) (h:B.getLast?=some p) (hz:A.length<1000) :
  ZA (ZO o (mOp1 pPop a)) σ g=.nx σ ((g.set y (.lst (mkD B.dropLast))).set x (.lst (mkD (A++[p])))):=by
 refine YV (d:=.non) ?_
 have hx1:(g.set y (.lst (mkD B.dropLast)))[x]?=some (.lst (mkD A)):=by rw [List.getElem?_set_ne (Ne.symm hxy)]; exact hx
 have hz':(mkD A).length<SZ:=Qam (by rw [ZT]; omega)
 unfold ZO
 rw [ho,Res.bind_ok]; dsimp only
 rw [hx]; dsimp only
 rw [Qg5 ha hy h,Res.bind_ok]
 rw [hx1]; dsimp only
 rw [if_pos hz',QeN]
theorem Qd0 (W:WRep rows w l r g st pl L R) (hz:L.length<1000):∃ g',ZR [.ref w] g=.ok .non g'∧WRep rows w l r g' st (pl+1) (Z5 L pl (Qo R pl)) (Zl R pl)∧KW w l r g g':=by
 have a1:∃ g1,mIf (Qf (Z8 12 (Str.ofString "is_on_mark") Qy (mVar 0) mNil)) (ZA (ZO (QF [12] (Str.ofString "left_marks") (mVar 0)) (mOp1 pPop (QF [12] (Str.ofString "right_marks") (mVar 0))))) QB [some (.ref w)] g=.nx [some (.ref w)] g1∧WRep rows w l r g1 st pl (Z5 L pl (Qo R pl)) (Zl R pl)∧KW w l r g g1:=by
  unfold Zl
  cases h:Qo R pl with
  | none=>exact⟨g,iff' g ((Qbl W rfl).trans (by rw [h]; rfl)) rfl,by simpa [Z5] using W,.refl⟩
  | some s'=>exact⟨_,ift g ((Qbl W rfl).trans (by rw [h]; rfl)) (QeP (W.left rfl) (W.right rfl) W.l' W.r' W.lr (Je h) hz),by simpa [Z5] using (W.setR (R':=R.dropLast)).setL,(J8 (.inr (.inr rfl))).trans (J8 (.inr (.inl rfl)))⟩
 obtain⟨g1,e1,W1,k1⟩:=a1
 refine⟨_,QbS (σ:=[some (.ref w)]) rfl ?_,W1.setW,k1.trans (J8 (.inl rfl))⟩
 show Yp [some (.ref w)] g=_
 unfold Yp
 exact Qg _ _ e1 (QeO W1 rfl (Ql (W1.place rfl) rfl rfl))
theorem Qfx (W:WRep rows w l r g st pl L R) (hz:R.length<1000):∃ g',Z0 [.ref w] g=.ok .non g'∧WRep rows w l r g' st (pl - 1) (Zl L (pl - 1)) (Z5 R (pl - 1) (Qo L (pl - 1)))∧KW w l r g g':=by
 have W1:WRep rows w l r (g.set w (Qbk rows st (pl - 1) l r)) st (pl - 1) L R:=W.setW
 have k1:KW w l r g (g.set w (Qbk rows st (pl - 1) l r)):=J8 (.inl rfl)
 have e1:QN [12] (Str.ofString "place") (mVar 0) (mOp2 pSub (QF [12] (Str.ofString "place") (mVar 0)) (mLit (.int 1))) [some (.ref w)] g=.nx [some (.ref w)] (g.set w (Qbk rows st (pl - 1) l r)):=QeO W rfl (Ql (W.place rfl) rfl rfl)
 generalize g.set w (Qbk rows st (pl - 1) l r)=g1 at W1 k1 e1
 have t1:Qbw (Qf (mOp2 pGt (mOp1 pLen (QF [12] (Str.ofString "left_marks") (mVar 0))) (mLit (.int 0)))) (Qf (mOp2 pEq (mOp2 pIx (mOp2 pIx (QF [12] (Str.ofString "left_marks") (mVar 0)) (mOp1 pNeg (mLit (.int 1)))) (mLit (.int 0))) (QF [12] (Str.ofString "place") (mVar 0)))) [some (.ref w)] g1=.ok (Qo L (pl - 1)).isSome g1:=by
  have:=Qg4 (σ:=[some (.ref w)]) (W1.left (i:=0) rfl) W1.l' (W1.place (i:=0) rfl)
  unfold mAnd at this
  unfold Qbw Qf
  rw [Qi7 (W1.left rfl) W1.l',Res.bind_ok] at this ⊢
  dsimp only at this ⊢
  rw [Res.bind_ok]
  by_cases hp:0<L.length
  ·rw [decide_eq_true hp,if_pos rfl] at this ⊢
   rw [this,Res.bind_ok]
  ·rw [decide_eq_false hp,if_neg Bool.false_ne_true] at this ⊢
   injection this with a b
   injection a with a
   rw [← a]
 have a2:∃ g2,YD [some (.ref w)] g=.nx [some (.ref w)] g2∧WRep rows w l r g2 st (pl - 1) (Zl L (pl - 1)) (Z5 R (pl - 1) (Qo L (pl - 1)))∧KW w l r g g2:=by
  unfold YD Zl
  cases h:Qo L (pl - 1) with
  | none=>exact⟨g1,Qg _ _ e1 (iff' g1 (t1.trans (by rw [h]; rfl)) rfl),by simpa [Z5] using W1,k1⟩
  | some s'=>exact⟨_,Qg _ _ e1 (ift g1 (t1.trans (by rw [h]; rfl)) (QeP (W1.right rfl) (W1.left rfl) W1.r' W1.l' (Ne.symm W1.lr) (Je h) hz)),by simpa [Z5] using (W1.setL (L':=L.dropLast)).setR,k1.trans ((J8 (.inr (.inl rfl))).trans (J8 (.inr (.inr rfl))))⟩
 obtain⟨g2,e2,W2,k2⟩:=a2
 exact⟨g2,QbS rfl e2,W2,k2⟩
noncomputable def goL (d:D) (pl:Int) (L R:List (Int×Nat)):Option (Nat×Int×List (Int×Nat)×List (Int×Nat)):=match d with
 | .tup [.int a,.str y,.int b]=>some (if y=rS then (b.toNat,pl+1,Z5 L pl (Qo (wrt R pl a.toNat) pl),Zl (wrt R pl a.toNat) pl) else (b.toNat,pl - 1,Zl L (pl - 1),Z5 (wrt R pl a.toNat) (pl - 1) (Qo L (pl - 1))))
 | _=>none
theorem Qg6 (R:List (Int×Nat)) (pl:Int) (s:Nat):(wrt R pl s).length≤R.length+1:=by
 unfold wrt Zl
 rw [List.length_append]
 split <;> split <;> simp <;> omega
theorem Qfy {row:List D} {d:D} {n m:Nat} (W:WRep rows w l r g st pl L R) (hr:rows[st]?=some row) (hd:row[(Qo R pl).getD 0]?=some d) (ho:entOk d n m) (hzL:L.length<900) (hzR:R.length<900) :
  (d=.non∧QI [.ref w] g=.ok (.bl false) g)∨∃ st' pl' L' R' g',goL d pl L R=some (st',pl',L',R')∧QI [.ref w] g=.ok (.bl true) g'∧WRep rows w l r g' st' pl' L' R'∧KW w l r g g':=by
 have e0:mAsg (gSet 1) (Z8 12 (Str.ofString "entry") Yx (mVar 0) mNil) [some (.ref w),none] g=.nx [some (.ref w),some d] g:=QM (by rw [Jd rfl W.w' (Qij ..) rfl]; exact Qin W hr hd)
 rcases ho with rfl | ⟨a,b,y,rfl,a1,a2,b1,b2,yy⟩
 ·refine .inl ⟨rfl,ZG rfl ?_⟩
  show Zy [some (.ref w),none] g=_
  unfold Zy
  exact Qg _ _ e0 (Jc (ift g rfl rfl))
 ·right
  obtain⟨g1,e1,W1,k1⟩:=Qio (s:=a.toNat) W (by omega)
  have ea:((a.toNat:Nat):Int)=a:=by omega
  have eb:((b.toNat:Nat):Int)=b:=by omega
  rw [ea] at e1
  have hl1:=Qg6 R pl a.toNat
  have hw:ZA (Z8 12 (Str.ofString "write") Yy (mVar 0) (Qa (mOp2 pIx (mVar 1) (mLit (.int 0))) mNil)) [some (.ref w),some (.tup [.int a,.str y,.int b])] g=.nx [some (.ref w),some (.tup [.int a,.str y,.int b])] g1:=YV (d:=.non) (by rw [Jd rfl W.w' (Qik ..) (xs:=[.int a]) (g2:=g) rfl]; exact e1)
  have fin:∀ {pl' L' R' g2},mIf (Qf (mOp2 pEq (mOp2 pIx (mVar 1) (mLit (.int 1))) (mLit (.str (Str.ofString "r"))))) (ZA (Z8 12 (Str.ofString "go_right") ZR (mVar 0) mNil)) (ZA (Z8 12 (Str.ofString "go_left") Z0 (mVar 0) mNil)) [some (.ref w),some (.tup [.int a,.str y,.int b])] g1=.nx [some (.ref w),some (.tup [.int a,.str y,.int b])] g2->WRep rows w l r g2 st pl' L' R'->KW w l r g1 g2->∃ g',QI [.ref w] g=.ok (.bl true) g'∧WRep rows w l r g' b.toNat pl' L' R'∧KW w l r g g':=fun {pl' L' R' g2} h W2 k2=>by
   refine⟨g2.set w (Qbk rows b.toNat pl' l r),ZG rfl ?_,W2.setW,(k1.trans k2).trans (J8 (.inl rfl))⟩
   show Zy [some (.ref w),none] g=_
   unfold Zy
   refine Qg _ _ e0 (Qg _ g (iff' g rfl rfl) (Qg _ _ hw (Qg _ _ h (Qg _ _ (Qip W2 rfl ?_) rfl))))
   rw [eb]; rfl
  have t:Qf (mOp2 pEq (mOp2 pIx (mVar 1) (mLit (.int 1))) (mLit (.str (Str.ofString "r")))) [some (.ref w),some (.tup [.int a,.str y,.int b])] g1=.ok (y == rS) g1:=by
   rw [s_r]; exact QT (Ql (x:=.str y) (Ql rfl rfl rfl) rfl rfl)
  by_cases hy:y=rS
  ·obtain⟨g2,e2,W2,k2⟩:=Qd0 W1 (by omega)
   obtain⟨g',e3,W3,k3⟩:=fin (ift g1 (t.trans (by simp [hy])) (YV (d:=.non) (by rw [Jd rfl W1.w' (QdZ ..) rfl]; exact e2))) W2 k2
   exact⟨_,_,_,_,g',by unfold goL; dsimp only; rw [if_pos hy],e3,W3,k3⟩
  ·obtain⟨g2,e2,W2,k2⟩:=Qfx W1 (by omega)
   obtain⟨g',e3,W3,k3⟩:=fin (iff' g1 (t.trans (by simp [hy])) (YV (d:=.non) (by rw [Jd rfl W1.w' (Qfu ..) rfl]; exact e2))) W2 k2
   exact⟨_,_,_,_,g',by unfold goL; dsimp only; rw [if_neg hy],e3,W3,k3⟩
end
end L3
end
section
namespace L3
open PySem
theorem Jp {c:MT} {body:MS}:∀(f:Nat) (σ:S3) (g:G),Zd c body f σ g≠.stuck->∀ f',f≤f'->Zd c body f' σ g=Zd c body f σ g
 | 0,_,_,h,_,_=>absurd rfl h
 | f+1,σ,g,h,f',hf=>by
  obtain⟨k,rfl⟩:∃ k,f'=k+1:=⟨f' - 1,by omega⟩
  unfold Zd at h ⊢
  cases hc:c σ g with
  | stuck=>rfl
  | raise e g1=>rfl
  | ok b g1 =>
   cases b with
   | false=>rfl
   | true =>
    rw [hc] at h
    dsimp only at h ⊢
    cases hb:body σ g1 with
    | nx σ2 g2=>rw [hb] at h; exact Jp f σ2 g2 h k (by omega)
    | ct σ2 g2=>rw [hb] at h; exact Jp f σ2 g2 h k (by omega)
    | bk σ2 g2=>rfl
    | rt d g2=>rfl
    | raise e σ2 g2=>rfl
    | stuck=>rfl
theorem Qcv {c:MT} {body:MS} {f:Nat} {σ:S3} {g:G} {R:Out} (h:Zd c body f σ g=R) (hR:R≠.stuck):QbG c body σ g=R:=by
 have hx:∃ f,Zd c body f σ g≠.stuck:=⟨f,by rw [h]; exact hR⟩
 unfold QbG
 rw [dif_pos hx]
 have h1:=hx.choose_spec
 rcases Nat.le_total f hx.choose with z | z
 ·rw [Jp f σ g (by rw [h]; exact hR) _ z,h]
 ·rw [← Jp _ σ g h1 f z,h]
structure Cf where
 st:Nat
 pl:Int
 L:List (Int×Nat)
 R:List (Int×Nat)
noncomputable def Qd1 (rows:List (List D)) (s c:Nat):Option D:=(rows[s]?).bind fun r=>r[c]?
noncomputable def ZM (rows:List (List D)) (c:Cf):Option Cf:=((Qd1 rows c.st ((Qo c.R c.pl).getD 0)).bind fun d=>goL d c.pl c.L c.R).map fun x=>⟨x.1,x.2.1,x.2.2.1,x.2.2.2⟩
noncomputable def runC (rows:List (List D)):Nat->Cf->Cf×Nat
 | 0,c=>(c,0)
 | k+1,c=>match ZM rows c with
  | none=>(c,0)
  | some c'=>((runC rows k c').1,(runC rows k c').2+1)
theorem Zp {rows:List (List D)} {k:Nat} {c c':Cf} (h:ZM rows c=some c'):runC rows (k+1) c=((runC rows k c').1,(runC rows k c').2+1):=by
 show(match ZM rows c with | none=>(c,0) | some c'=>((runC rows k c').1,(runC rows k c').2+1))=_
 rw [h]
theorem Q5 {rows:List (List D)} {k:Nat} {c:Cf} (h:ZM rows c=none):runC rows (k+1) c=(c,0):=by
 show(match ZM rows c with | none=>(c,0) | some c'=>((runC rows k c').1,(runC rows k c').2+1))=_
 rw [h]
structure OkC (n m:Nat) (c:Cf):Prop where
 st:c.st<n
 L:∀ p∈c.L,p.2<m
 R:∀ p∈c.R,p.2<m
theorem OkC.sg {n m:Nat} {c:Cf} (h:OkC n m c) (hm:0<m):(Qo c.R c.pl).getD 0<m:=by
 cases e:Qo c.R c.pl with
 | none=>exact hm
 | some s=>exact h.R _ (List.mem_of_getLast? (Je e))
theorem Qd2 {R:List (Int×Nat)} {x:Int} {p:Int×Nat} (h:p∈Zl R x):p∈R:=by
 unfold Zl at h
 split at h
 ·exact List.dropLast_subset _ h
 ·exact h
theorem Qg7 {L:List (Int×Nat)} {x:Int} {o:Option Nat} {p:Int×Nat} (h:p∈Z5 L x o):p∈L∨o=some p.2:=by
 cases o with
 | none=>exact .inl h
 | some s =>
  rcases List.mem_append.mp h with z | z
  ·exact .inl z
  ·rw [List.mem_singleton.mp z]; exact .inr rfl
theorem Qkj {R:List (Int×Nat)} {x:Int} {s:Nat} {p:Int×Nat} (h:p∈wrt R x s):p∈R∨p=(x,s):=by
 unfold wrt at h
 rcases List.mem_append.mp h with z | z
 ·exact .inl (Qd2 z)
 ·split at z
  ·cases z
  ·exact .inr (List.mem_singleton.mp z)
theorem Qd3 {rows:List (List D)} {n m:Nat} {c c':Cf} {d:D} (h:OkC n m c) (ho:entOk d n m) (hg:(goL d c.pl c.L c.R).map (fun x=>(⟨x.1,x.2.1,x.2.2.1,x.2.2.2⟩:Cf))=some c'):OkC n m c'∧c'.L.length+c'.R.length≤c.L.length+c.R.length+1:=by
 rcases ho with rfl | ⟨a,b,y,rfl,a1,a2,b1,b2,yy⟩
 ·cases hg
 ·have hw:∀ p∈wrt c.R c.pl a.toNat,p.2<m:=fun p hp=>by
   rcases Qkj hp with z | z
   ·exact h.R p z
   ·rw [z]; show a.toNat<m; omega
  have hwl:=Qg6 c.R c.pl a.toNat
  have lens:∀(A B:List (Int×Nat)) (x:Int),(Z5 A x (Qo B x)).length+(Zl B x).length=A.length+B.length:=fun A B x=>by
   unfold Zl
   cases e:Qo B x with
   | none=>simp [Z5]
   | some s =>
    have hne:B≠[]:=fun z=>by rw [z] at e; cases e
    have:=List.length_pos_iff.mpr hne
    simp [Z5]; omega
  unfold goL at hg
  dsimp only at hg
  by_cases hy:y=rS
  ·rw [if_pos hy] at hg
   cases hg
   refine⟨⟨by show b.toNat<n; omega,fun p hp=>?_,fun p hp=>hw p (Qd2 hp)⟩,by have:=lens c.L (wrt c.R c.pl a.toNat) c.pl; show(Z5 c.L c.pl (Qo (wrt c.R c.pl a.toNat) c.pl)).length+(Zl (wrt c.R c.pl a.toNat) c.pl).length≤_; omega⟩
   rcases Qg7 hp with z | z
   ·exact h.L p z
   ·exact hw (c.pl,p.2) (List.mem_of_getLast? (Je z))
  ·rw [if_neg hy] at hg
   cases hg
   refine⟨⟨by show b.toNat<n; omega,fun p hp=>h.L p (Qd2 hp),fun p hp=>?_⟩,by have:=lens (wrt c.R c.pl a.toNat) c.L (c.pl - 1); show(Zl c.L (c.pl - 1)).length+(Z5 (wrt c.R c.pl a.toNat) (c.pl - 1) (Qo c.L (c.pl - 1))).length≤_; omega⟩
   rcases Qg7 hp with z | z
   ·exact hw p z
   ·exact h.L (c.pl - 1,p.2) (List.mem_of_getLast? (Je z))
structure Tb (rows:List (List D)) (n m:Nat):Prop where
 n0:0<n
 m0:0<m
 n12:n≤12
 m8:m≤8
 len:rows.length=n
 row:∀ r∈rows,r.length=m
 ent:∀ r∈rows,∀ d∈r,entOk d n m
theorem Tb.at {rows:List (List D)} {n m s c:Nat} (T:Tb rows n m) (hs:s<n) (hc:c<m):∃ row d,rows[s]?=some row∧row[c]?=some d∧entOk d n m∧Qd1 rows s c=some d:=by
 have h1:s<rows.length:=by rw [T.len]; exact hs
 have hm:=List.getElem_mem h1
 have h2:c<rows[s].length:=by rw [T.row _ hm]; exact hc
 refine⟨rows[s],rows[s][c],by simp,by simp,T.ent _ hm _ (List.getElem_mem h2),?_⟩
 unfold Qd1
 simp [h1,h2]
noncomputable def cRep (rows:List (List D)) (w l r:Nat) (g:G) (c:Cf):Prop:=WRep rows w l r g c.st c.pl c.L c.R
theorem QeQ {rows:List (List D)} {n m w l r:Nat} {steps:Int} (T:Tb rows n m):∀(k:Nat) (c:Cf) (g:G) (done:Int),done+k=steps->OkC n m c->c.L.length+c.R.length+k<800->cRep rows w l r g c ->
  ∃ g',Zd (Qbw (Qf (mOp2 pLt (mVar 2) (mVar 1))) (Qf (Z8 12 (Str.ofString "stepped") QI (mVar 0) mNil))) YU (k+1) [some (.ref w),some (.int steps),some (.int done)] g=.nx [some (.ref w),some (.int steps),some (.int (done+(runC rows k c).2))] g'∧cRep rows w l r g' (runC rows k c).1∧KW w l r g g'∧OkC n m (runC rows k c).1
 | 0,c,g,done,hd,ho,hz,W=>by
  refine⟨g,?_,W,.refl,ho⟩
  unfold Zd
  have t:Qbw (Qf (mOp2 pLt (mVar 2) (mVar 1))) (Qf (Z8 12 (Str.ofString "stepped") QI (mVar 0) mNil)) [some (.ref w),some (.int steps),some (.int done)] g=.ok false g:=by
   have:Qf (mOp2 pLt (mVar 2) (mVar 1)) [some (.ref w),some (.int steps),some (.int done)] g=.ok (decide (done<steps)) g:=rfl
   unfold Qbw
   rw [this,Res.bind_ok,decide_eq_false (by omega)]; rfl
  rw [t]
  simp [runC]
 | k+1,c,g,done,hd,ho,hz,W=>by
  obtain⟨row,d,hr,hdd,hent,hat⟩:=T.at ho.st (ho.sg T.m0)
  have lt:Qf (mOp2 pLt (mVar 2) (mVar 1)) [some (.ref w),some (.int steps),some (.int done)] g=.ok true g:=by
   have:Qf (mOp2 pLt (mVar 2) (mVar 1)) [some (.ref w),some (.int steps),some (.int done)] g=.ok (decide (done<steps)) g:=rfl
   rw [this,decide_eq_true (by omega)]
  have tt:∀ b g1,QI [.ref w] g=.ok (.bl b) g1->Qbw (Qf (mOp2 pLt (mVar 2) (mVar 1))) (Qf (Z8 12 (Str.ofString "stepped") QI (mVar 0) mNil)) [some (.ref w),some (.int steps),some (.int done)] g=.ok b g1:=fun b g1 h=>by
   unfold Qbw
   rw [lt,Res.bind_ok,if_pos rfl]
   exact QT (by rw [Jd rfl W.w' (Qfv ..) rfl]; exact h)
  rcases Qfy W hr hdd hent (by omega) (by omega) with⟨rfl,e⟩ | ⟨st',pl',L',R',g1,eg,e,W1,k1⟩
  ·have hs:ZM rows c=none:=by unfold ZM; rw [hat]; rfl
   rw [Q5 hs]
   refine⟨g,?_,W,.refl,ho⟩
   unfold Zd
   rw [tt false g e]
   simp
  ·have hs:ZM rows c=some ⟨st',pl',L',R'⟩:=by unfold ZM; rw [hat]; show(goL d c.pl c.L c.R).map _=_; rw [eg]; rfl
   obtain⟨ho',hl'⟩:=Qd3 (rows:=rows) ho hent (c':=⟨st',pl',L',R'⟩) (by rw [eg]; rfl)
   obtain⟨g2,e2,W2,k2,o2⟩:=QeQ (w:=w) (l:=l) (r:=r) (steps:=steps) T k ⟨st',pl',L',R'⟩ g1 (done+1) (by omega) ho' (by show L'.length+R'.length+k<800; have:L'.length+R'.length≤c.L.length+c.R.length+1:=hl'; omega) W1
   rw [Zp hs]
   refine⟨g2,?_,W2,k1.trans k2,o2⟩
   unfold Zd
   rw [tt true g1 e]
   have eb:YU [some (.ref w),some (.int steps),some (.int done)] g1=.nx [some (.ref w),some (.int steps),some (.int (done+1))] g1:=rfl
   dsimp only
   rw [eb]
   dsimp only
   rw [e2]
   rw [show done+1+((runC rows k ⟨st',pl',L',R'⟩).2:Int)=done+(((runC rows k ⟨st',pl',L',R'⟩).2+1:Nat):Int) by omega]
theorem Ql9 {rows:List (List D)} {n m w l r k:Nat} {c:Cf} {g:G} (T:Tb rows n m) (ho:OkC n m c) (hz:c.L.length+c.R.length+k<800) (W:cRep rows w l r g c) :
  ∃ g',Qal [.ref w,.int k] g=.ok (.int (runC rows k c).2) g'∧cRep rows w l r g' (runC rows k c).1∧KW w l r g g'∧OkC n m (runC rows k c).1:=by
 obtain⟨g',e,W',k',o'⟩:=QeQ (w:=w) (l:=l) (r:=r) (steps:=k) T k c g 0 (by omega) ho hz W
 rw [Int.zero_add] at e
 refine⟨g',ZG rfl ?_,W',k',o'⟩
 show Qak [some (.ref w),some (.int k),none] g=_
 unfold Qak
 exact Qg [some (.ref w),some (.int k),some (.int 0)] g rfl (Qg _ g' (Qcv e (by intro z; cases z)) rfl)
noncomputable def QK (c:Cf):D:=.tup [.int c.st,.int c.pl,.tup (mkD (c.L++c.R.reverse))]
theorem Qkk {rows:List (List D)} {w l r:Nat} {c:Cf} {g:G} (hz:c.L.length+c.R.length≤1000) (W:cRep rows w l r g c):JI [.ref w] g=.ok (QK c) g:=by
 refine ZG rfl (ZS ?_)
 have hz':(mkD c.L).length+((mkD c.R).reverse).length≤SZ:=Nat.le_of_lt (Qam (by rw [List.length_reverse,ZT,ZT]; exact hz))
 have e1:mOp2 pAdd (mOp1 Z7 (QF [12] (Str.ofString "left_marks") (mVar 0))) (mOp1 YG (QF [12] (Str.ofString "right_marks") (mVar 0))) [some (.ref w)] g=.ok (.tup (mkD (c.L++c.R.reverse))) g:=by
  refine Ql (x:=.tup (mkD c.L)) (y:=.tup (mkD c.R).reverse) (g1:=g) (g2:=g) (Zu (W.left rfl) (by simp [Z7,W.l'])) (Zu (W.right rfl) ?_) ?_
  ·unfold YG
   rw [Qg1 W.r']
  ·unfold pAdd
   dsimp only
   rw [if_pos hz']
   simp [mkD,List.map_reverse]
 have e2:(Qa (QF [12] (Str.ofString "state") (mVar 0)) (Qa (QF [12] (Str.ofString "place") (mVar 0)) (Qa (mOp2 pAdd (mOp1 Z7 (QF [12] (Str.ofString "left_marks") (mVar 0))) (mOp1 YG (QF [12] (Str.ofString "right_marks") (mVar 0)))) mNil))) [some (.ref w)] g=.ok [.int c.st,.int c.pl,.tup (mkD (c.L++c.R.reverse))] g:=Qj (W.state rfl) (Qj (W.place rfl) (Qj e1 rfl))
 unfold mOpA
 show(Qa _ _ [some (.ref w)] g).bind pTup=_
 rw [e2,Res.bind_ok]; rfl
end L3
end
section
namespace L3
open PySem
noncomputable def c0:Cf:=⟨0,0,[],[]⟩
theorem Qkl (t s p l r:D):putG (Str.ofString "right_marks") r (putG (Str.ofString "left_marks") l (putG (Str.ofString "place") p (putG (Str.ofString "state") s (putG (Str.ofString "table") t []))))=Zj t s p l r:=by
 unfold Zj; rw [Zg,Zh,Zi,Qp,Qm]; rfl
theorem Qma (t s p:D):(putG (Str.ofString "place") p (putG (Str.ofString "state") s (putG (Str.ofString "table") t []))).lookup (Str.ofString "place")=some p:=by
 rw [Zg,Zh,Zi]; rfl
theorem YI {cs:List Nat} {f:Str} {e:ME} {σ:S3} {g g1:G} {w c:Nat} {fs:List (Str×D)} {v:D} (he:e σ g=.ok v g1) (hv:σ[0]?=some (some (.ref w))) (h:g1[w]?=some (.ins c fs)) (hc:c∈cs) (hl:fs.length<100):QN cs f (mVar 0) e σ g=.nx σ (g1.set w (.ins c (putG f v fs))):=by
 unfold QN mVar
 rw [he]
 dsimp only
 rw [hv]
 dsimp only
 rw [h]
 dsimp only
 rw [if_pos ⟨hc,hl⟩]
theorem Qbm (f:Str) (v:D):∀ fs:List (Str×D),(putG f v fs).length≤fs.length+1
 | []=>by simp [putG]
 | (k,x)::r=>by
  unfold putG
  split
  ·simp
  ·have:=Qbm f v r
   simp; omega
theorem ok0 {rows:List (List D)} {n m:Nat} (T:Tb rows n m):OkC n m c0:=⟨T.n0,fun p hp=>(List.not_mem_nil hp).elim,fun p hp=>(List.not_mem_nil hp).elim⟩
theorem KW.old {w l r:Nat} {g0 g g':G} (k:KW w l r g g') (k0:Keeps [] g0 g) (h1:g0.length≤w) (h2:g0.length≤l) (h3:g0.length≤r):Keeps [] g0 g' :=
 ⟨Nat.le_trans k0.len k.len,fun b o hb eb=>by
  have:b<g0.length:=ZF eb
  exact k.at' b o (by simp; omega) (k0.at' b o hb eb)⟩
end L3
end
section
namespace L3
open PySem
noncomputable abbrev Mk':=List (Int×Nat)
noncomputable def marks (c:Cf):Mk':=c.L++c.R.reverse
noncomputable def YJ (M:Mk') (x:Int) (s:Nat):Mk':=M.filter (fun p=>decide (p.1<x))++(if s=0 then [] else [(x,s)])++M.filter (fun p=>decide (x<p.1))
noncomputable def rdP (M:Mk') (x:Int) (s:Nat):Prop:=(s≠0∧(x,s)∈M)∨(s=0∧∀ p∈M,p.1≠x)
structure Good (c:Cf):Prop where
 up:(marks c).Pairwise fun a b=>a.1<b.1
 nz:∀ p∈marks c,p.2≠0
 lt:∀ p∈c.L,p.1<c.pl
 ge:∀ p∈c.R,c.pl≤p.1
theorem Qmb {M:Mk'} (h:M.Pairwise fun a b=>a.1<b.1) {x:Int} {s t:Nat} (hs:(x,s)∈M) (ht:(x,t)∈M):s=t:=by
 induction M with
 | nil=>cases hs
 | cons p r ih =>
  have h':=List.pairwise_cons.mp h
  rcases List.mem_cons.mp hs with e1 | hs
  ·rcases List.mem_cons.mp ht with e2 | ht
   ·have:=e1.trans e2.symm; injection this
   ·have:=h'.1 _ ht
    rw [← e1] at this
    exact absurd this (Int.lt_irrefl _)
  ·rcases List.mem_cons.mp ht with e2 | ht
   ·have:=h'.1 _ hs
    rw [← e2] at this
    exact absurd this (Int.lt_irrefl _)
   ·exact ih h'.2 hs ht
theorem rdP.fun {M:Mk'} (h:M.Pairwise fun a b=>a.1<b.1) {x:Int} {s t:Nat} (hs:rdP M x s) (ht:rdP M x t):s=t:=by
 rcases hs with⟨a,b⟩ | ⟨a,b⟩
 ·rcases ht with⟨c,d⟩ | ⟨c,d⟩
  ·exact Qmb h b d
  ·exact absurd rfl (d _ b)
 ·rcases ht with⟨c,d⟩ | ⟨c,d⟩
  ·exact absurd rfl (b _ d)
  ·rw [a,c]
theorem QaO {α:Type} {l:List α} {x:α} (h:l.getLast?=some x):l.dropLast++[x]=l:=by
 obtain⟨ys,rfl⟩:=List.getLast?_eq_some_iff.mp h
 simp
theorem YK {R:Mk'} {x:Int} {s:Nat} (h:Qo R x=some s):R.reverse=(x,s)::R.dropLast.reverse:=by
 have:=Je h
 have hne:R≠[]:=fun z=>by rw [z] at this; cases this
 have e:R.dropLast++[(x,s)]=R:=by
  exact QaO this
 rw [← e]; simp
theorem Qd4 {R:Mk'} {x:Int} (h:Qo R x=none) (hu:R.reverse.Pairwise fun a b=>a.1<b.1) (hg:∀ p∈R,x≤p.1):∀ p∈R,x<p.1:=by
 intro p hp
 cases hq:R.getLast? with
 | none =>
  have:R=[]:=by simpa using hq
  rw [this] at hp; cases hp
 | some y =>
  have hne:y.1≠x:=fun z=>by
   unfold Qo at h
   rw [hq] at h
   obtain⟨y1,y2⟩:=y
   dsimp only at h z
   rw [if_pos z] at h
   cases h
  have hy:y∈R:=List.mem_of_getLast? hq
  have hyx:x<y.1:=by have:=hg y hy; omega
  have e:R.dropLast++[y]=R:=QaO hq
  rw [← e,List.reverse_append] at hu
  have hu':=(List.pairwise_cons.mp hu).1
  rw [← e] at hp
  rcases List.mem_append.mp hp with z | z
  ·have:=hu' p (List.mem_reverse.mpr z)
   omega
  ·rw [List.mem_singleton.mp z]; exact hyx
theorem Good.rd {c:Cf} (h:Good c):rdP (marks c) c.pl ((Qo c.R c.pl).getD 0):=by
 have hu:=(List.pairwise_append.mp h.up).2.1
 cases e:Qo c.R c.pl with
 | some s =>
  have hm:(c.pl,s)∈marks c:=List.mem_append_right _ (by rw [YK e]; exact List.mem_cons_self ..)
  exact .inl ⟨h.nz _ hm,hm⟩
 | none =>
  refine .inr ⟨rfl,fun p hp=>?_⟩
  rcases List.mem_append.mp hp with z | z
  ·have:=h.lt p z; omega
  ·have:=Qd4 e hu h.ge p (List.mem_reverse.mp z); omega
theorem YL {M:Mk'} {f:Int×Nat->Bool} (h:∀ p∈M,f p=true):M.filter f=M:=List.filter_eq_self.mpr h
theorem J9 {M:Mk'} {f:Int×Nat->Bool} (h:∀ p∈M,f p=false):M.filter f=[]:=List.filter_eq_nil_iff.mpr fun p hp=>by rw [h p hp]; simp
theorem Good.cut {c:Cf} (h:Good c):(∀ p∈Zl c.R c.pl,c.pl<p.1)∧(marks c).filter (fun p=>decide (p.1<c.pl))=c.L∧(marks c).filter (fun p=>decide (c.pl<p.1))=(Zl c.R c.pl).reverse:=by
 have hu:=(List.pairwise_append.mp h.up).2.1
 have hc:∀ p∈Zl c.R c.pl,c.pl<p.1:=by
  unfold Zl
  cases e:Qo c.R c.pl with
  | none=>exact fun p hp=>Qd4 e hu h.ge p hp
  | some s =>
   rw [YK e] at hu
   have:=(List.pairwise_cons.mp hu).1
   exact fun p hp=>this p (List.mem_reverse.mpr hp)
 refine⟨hc,?_,?_⟩
 ·unfold marks
  rw [List.filter_append,YL (fun p hp=>decide_eq_true (h.lt p hp)),J9 (fun p hp=>decide_eq_false (by have:=h.ge p (List.mem_reverse.mp hp); omega)),List.append_nil]
 ·unfold marks
  rw [List.filter_append,J9 (fun p hp=>decide_eq_false (by have:=h.lt p hp; omega)),List.nil_append]
  unfold Zl at hc ⊢
  cases e:Qo c.R c.pl with
  | none =>
   rw [e] at hc
   exact YL fun p hp=>decide_eq_true (hc p (List.mem_reverse.mp hp))
  | some s =>
   rw [e] at hc
   rw [YK e,List.filter_cons]
   show(if decide (c.pl<c.pl)=true then _ else _)=_
   rw [if_neg (by simp)]
   exact YL fun p hp=>decide_eq_true (hc p (List.mem_reverse.mp hp))
theorem Qg8 {c:Cf} {s:Nat} (h:Good c):c.L++(wrt c.R c.pl s).reverse=YJ (marks c) c.pl s:=by
 obtain⟨_,h2,h3⟩:=h.cut
 unfold YJ wrt
 rw [h2,h3,List.reverse_append,List.append_assoc]
 congr 1
 split <;> simp
theorem Qfz {c:Cf} {s:Nat} (h:Good c):(YJ (marks c) c.pl s).Pairwise (fun a b=>a.1<b.1)∧(∀ p∈YJ (marks c) c.pl s,p.2≠0)∧(∀ p∈wrt c.R c.pl s,c.pl≤p.1):=by
 obtain⟨hc,h2,h3⟩:=h.cut
 refine⟨?_,?_,?_⟩
 ·unfold YJ
  rw [List.pairwise_append,List.pairwise_append]
  refine⟨⟨h.up.filter _,by split <;> simp,fun a ha b hb=>?_⟩,h.up.filter _,fun a ha b hb=>?_⟩
  ·split at hb
   ·cases hb
   ·rw [List.mem_singleton.mp hb]
    exact of_decide_eq_true (List.mem_filter.mp ha).2
  ·have hb':c.pl<b.1:=of_decide_eq_true (List.mem_filter.mp hb).2
   rcases List.mem_append.mp ha with z | z
   ·have:a.1<c.pl:=of_decide_eq_true (List.mem_filter.mp z).2
    omega
   ·split at z
    ·cases z
    ·rw [List.mem_singleton.mp z]; exact hb'
 ·intro p hp
  unfold YJ at hp
  rcases List.mem_append.mp hp with z | z
  ·rcases List.mem_append.mp z with z | z
   ·exact h.nz p (List.mem_filter.mp z).1
   ·split at z
    ·cases z
    ·rename_i hs
     rw [List.mem_singleton.mp z]; exact hs
  ·exact h.nz p (List.mem_filter.mp z).1
 ·intro p hp
  unfold wrt at hp
  rcases List.mem_append.mp hp with z | z
  ·exact Int.le_of_lt (hc p z)
  ·split at z
   ·cases z
   ·rw [List.mem_singleton.mp z]; exact Int.le_refl _
theorem QfA {c c':Cf} {a b:Int} {y:Str} (h:Good c) (hg:(goL (.tup [.int a,.str y,.int b]) c.pl c.L c.R).map (fun x=>(⟨x.1,x.2.1,x.2.2.1,x.2.2.2⟩:Cf))=some c') :
  c'.st=b.toNat∧c'.pl=(if y=rS then c.pl+1 else c.pl - 1)∧marks c'=YJ (marks c) c.pl a.toNat∧Good c':=by
 obtain⟨u1,u2,u3⟩:=Qfz (s:=a.toNat) h
 have hm:=Qg8 (s:=a.toNat) h
 have hLm:∀ p∈c.L,p∈YJ (marks c) c.pl a.toNat:=fun p hp=>by rw [← hm]; exact List.mem_append_left _ hp
 have hRu:(wrt c.R c.pl a.toNat).reverse.Pairwise fun a b=>a.1<b.1:=by rw [← hm] at u1; exact(List.pairwise_append.mp u1).2.1
 have hLu:c.L.Pairwise fun a b=>a.1<b.1:=by rw [← hm] at u1; exact(List.pairwise_append.mp u1).1
 unfold goL at hg
 dsimp only at hg
 by_cases hy:y=rS
 ·rw [if_pos hy] at hg
  cases hg
  have em:Z5 c.L c.pl (Qo (wrt c.R c.pl a.toNat) c.pl)++(Zl (wrt c.R c.pl a.toNat) c.pl).reverse=YJ (marks c) c.pl a.toNat:=by
   rw [← hm]
   unfold Zl
   cases e:Qo (wrt c.R c.pl a.toNat) c.pl with
   | none=>simp [Z5]
   | some s=>rw [YK e]; simp [Z5]
  refine⟨rfl,by rw [if_pos hy],em,⟨by show(Z5 _ _ _++_).Pairwise _; rw [em]; exact u1,by show ∀ p∈Z5 _ _ _++_,_; rw [em]; exact u2,fun p hp=>?_,fun p hp=>?_⟩⟩
  ·have hp:p∈Z5 c.L c.pl (Qo (wrt c.R c.pl a.toNat) c.pl):=hp
   show p.1<c.pl+1
   cases e:Qo (wrt c.R c.pl a.toNat) c.pl with
   | none=>rw [e] at hp; have:=h.lt p hp; omega
   | some s =>
    rw [e] at hp
    rcases List.mem_append.mp hp with z | z
    ·have:=h.lt p z; omega
    ·rw [List.mem_singleton.mp z]; show c.pl<c.pl+1; omega
  ·have hp:p∈Zl (wrt c.R c.pl a.toNat) c.pl:=hp
   show c.pl+1≤p.1
   have:c.pl<p.1:=by
    unfold Zl at hp
    cases e:Qo (wrt c.R c.pl a.toNat) c.pl with
    | none=>rw [e] at hp; exact Qd4 e hRu u3 p hp
    | some s =>
     rw [e] at hp
     rw [YK e] at hRu
     exact(List.pairwise_cons.mp hRu).1 p (List.mem_reverse.mpr hp)
   omega
 ·rw [if_neg hy] at hg
  cases hg
  have hdrop:∀ s,Qo c.L (c.pl - 1)=some s->c.L.dropLast++[(c.pl - 1,s)]=c.L:=fun s e=>QaO (Je e)
  have em:Zl c.L (c.pl - 1)++(Z5 (wrt c.R c.pl a.toNat) (c.pl - 1) (Qo c.L (c.pl - 1))).reverse=YJ (marks c) c.pl a.toNat:=by
   rw [← hm]
   unfold Zl
   cases e:Qo c.L (c.pl - 1) with
   | none=>simp [Z5]
   | some s =>
    conv=>rhs; rw [← hdrop s e]
    simp [Z5]
  refine⟨rfl,by rw [if_neg hy],em,⟨by show(Zl _ _++_).Pairwise _; rw [em]; exact u1,by show ∀ p∈Zl _ _++_,_; rw [em]; exact u2,fun p hp=>?_,fun p hp=>?_⟩⟩
  ·have hp:p∈Zl c.L (c.pl - 1):=hp
   show p.1<c.pl - 1
   unfold Zl at hp
   cases e:Qo c.L (c.pl - 1) with
   | some s =>
    rw [e] at hp
    have hu:=hLu
    rw [← hdrop s e] at hu
    exact(List.pairwise_append.mp hu).2.2 p hp _ (List.mem_singleton_self _)
   | none =>
    rw [e] at hp
    have hp:p∈c.L:=hp
    have h1:=h.lt p hp
    cases hq:c.L.getLast? with
    | none =>
     have:c.L=[]:=by simpa using hq
     rw [this] at hp; cases hp
    | some z =>
     have hz:=h.lt z (List.mem_of_getLast? hq)
     have hne:z.1≠c.pl - 1:=fun w=>by
      unfold Qo at e
      rw [hq] at e
      obtain⟨z1,z2⟩:=z
      dsimp only at e w
      rw [if_pos w] at e
      cases e
     have ee:c.L.dropLast++[z]=c.L:=QaO hq
     have hu:=hLu
     rw [← ee] at hu hp
     rcases List.mem_append.mp hp with q | q
     ·have:=(List.pairwise_append.mp hu).2.2 p q _ (List.mem_singleton_self _)
      omega
     ·rw [List.mem_singleton.mp q]; omega
  ·have hp:p∈Z5 (wrt c.R c.pl a.toNat) (c.pl - 1) (Qo c.L (c.pl - 1)):=hp
   show c.pl - 1≤p.1
   cases e:Qo c.L (c.pl - 1) with
   | none=>rw [e] at hp; have:=u3 p hp; omega
   | some s =>
    rw [e] at hp
    rcases List.mem_append.mp hp with z | z
    ·have:=u3 p z; omega
    ·rw [List.mem_singleton.mp z]; exact Int.le_refl _
theorem QmN:Good c0:=⟨.nil,fun p hp=>(List.not_mem_nil hp).elim,fun p hp=>(List.not_mem_nil hp).elim,fun p hp=>(List.not_mem_nil hp).elim⟩
end L3
end
section
namespace L3
open PySem
theorem Qdc {rows:List (List D)} {n m:Nat} {c:Cf} (T:Tb rows n m) (ho:OkC n m c) (hg:Good c) :
  (Qd1 rows c.st ((Qo c.R c.pl).getD 0)=some .non∧ZM rows c=none)∨∃(a b:Int) (y:Str) (c':Cf),Qd1 rows c.st ((Qo c.R c.pl).getD 0)=some (.tup [.int a,.str y,.int b])∧0≤a∧a<m∧0≤b∧b<n∧(y=lS∨y=rS)∧ZM rows c=some c'∧c'.st=b.toNat∧c'.pl=(if y=rS then c.pl+1 else c.pl - 1)∧marks c'=YJ (marks c) c.pl a.toNat∧Good c'∧OkC n m c':=by
 obtain⟨row,d,hr,hdd,hent,hat⟩:=T.at ho.st (ho.sg T.m0)
 rcases id hent with rfl | ⟨a,b,y,rfl,a1,a2,b1,b2,yy⟩
 ·exact .inl ⟨hat,by unfold ZM; rw [hat]; rfl⟩
 ·right
  have hs:∃ c',ZM rows c=some c'∧(goL (.tup [.int a,.str y,.int b]) c.pl c.L c.R).map (fun x=>(⟨x.1,x.2.1,x.2.2.1,x.2.2.2⟩:Cf))=some c':=by
   refine⟨_,?_,rfl⟩
   unfold ZM; rw [hat]; rfl
  obtain⟨c',h1,h2⟩:=hs
  obtain⟨e1,e2,e3,e4⟩:=QfA hg h2
  exact⟨a,b,y,c',hat,a1,a2,b1,b2,yy,h1,e1,e2,e3,e4,(Qd3 (rows:=rows) ho hent h2).1⟩
end L3
end
section
namespace L3
open PySem
theorem QeR (k j:DK) (v:D):∀ ks:List (DK×D),dGet (ks.map fun p=>if p.1=k then (p.1,v) else p) j=(dGet ks j).map fun x=>if j=k then v else x
 | []=>rfl
 | p::r=>by
  have ih:=QeR k j v r
  unfold dGet at ih ⊢
  rw [List.map_cons,List.find?_cons,List.find?_cons]
  by_cases h:p.1=j
  ·have e:decide ((if p.1=k then (p.1,v) else p).1=j)=true:=by split <;> exact decide_eq_true h
   rw [e,decide_eq_true h]
   subst h
   by_cases hk:p.1=k <;> simp [hk]
  ·have e:decide ((if p.1=k then (p.1,v) else p).1=j)=false:=by split <;> exact decide_eq_false h
   rw [e,decide_eq_false h]
   exact ih
theorem QaP (k:DK):∀ ks:List (DK×D),(ks.any fun p=>decide (p.1=k))=(dGet ks k).isSome
 | []=>rfl
 | p::r=>by
  have ih:=QaP k r
  unfold dGet at ih ⊢
  rw [List.any_cons,List.find?_cons]
  by_cases h:p.1=k
  ·rw [decide_eq_true h]; rfl
  ·rw [decide_eq_false h]; exact ih
theorem QeS (k j:DK) (v:D):∀ ks:List (DK×D),dGet ks k=none->dGet (ks++[(k,v)]) j=if j=k then some v else dGet ks j
 | [],_=>by
  unfold dGet
  by_cases h:j=k
  ·subst h; simp
  ·simp [h,Ne.symm h]
 | p::r,hn=>by
  have hp:¬ p.1=k:=fun h=>by unfold dGet at hn; rw [List.find?_cons,decide_eq_true h] at hn; cases hn
  have hr:dGet r k=none:=by unfold dGet at hn ⊢; rw [List.find?_cons,decide_eq_false hp] at hn; exact hn
  have ih:=QeS k j v r hr
  unfold dGet at ih ⊢
  rw [List.cons_append,List.find?_cons,List.find?_cons]
  by_cases h:p.1=j
  ·rw [decide_eq_true h,if_neg (fun z=>hp (h.trans z))]
  ·rw [decide_eq_false h]; exact ih
theorem QaQ (ks:List (DK×D)) (k j:DK) (v:D):dGet (dPut ks k v) j=if j=k then some v else dGet ks j:=by
 unfold dPut
 rw [QaP]
 cases h:dGet ks k with
 | none=>rw [if_neg (by simp)]; exact QeS k j v ks h
 | some x =>
  rw [if_pos (show(some x).isSome=true from rfl),QeR]
  by_cases e:j=k
  ·subst e; rw [h]; simp
  ·simp [e]
theorem Qdd (k j:DK):∀ ks:List (DK×D),dGet (QaC ks k) j=if j=k then none else dGet ks j
 | []=>by unfold dGet QaC; split <;> rfl
 | p::r=>by
  have ih:=Qdd k j r
  unfold dGet QaC at ih ⊢
  rw [List.filter_cons]
  by_cases h:p.1=k
  ·rw [if_neg (by simp [h]),ih,List.find?_cons]
   by_cases e:j=k
   ·rw [if_pos e,if_pos e]
   ·rw [if_neg e,if_neg e,decide_eq_false (fun z=>e (z.symm.trans h))]
  ·rw [if_pos (by simp [h]),List.find?_cons,List.find?_cons]
   by_cases e:p.1=j
   ·rw [decide_eq_true e,if_neg (fun z=>h (e.trans z))]
   ·rw [decide_eq_false e]; exact ih
theorem Qcw (ks:List (DK×D)) (k:DK) (v:D):(dPut ks k v).length≤ks.length+1:=by
 unfold dPut; split <;> simp
theorem Qg9 (ks:List (DK×D)) (k:DK):(QaC ks k).length≤ks.length:=List.length_filter_le _ _
noncomputable def Qha (ks:List (DK×D)) (M:Mk'):Prop:=∀(x:Int) (s:Nat),rdP M x s->(dGet ks (.inl x)).getD (.int 0)=.int (s:Nat)
noncomputable def putC (ks:List (DK×D)) (x:Int) (a:Int):List (DK×D):=if a=0 then QaC (dPut ks (.inl x) (.int a)) (.inl x) else dPut ks (.inl x) (.int a)
theorem Qiq (ks:List (DK×D)) (x a:Int):(putC ks x a).length≤ks.length+1:=by
 unfold putC
 split
 ·exact Nat.le_trans (Qg9 _ _) (Qcw _ _ _)
 ·exact Qcw _ _ _
noncomputable def tabB (B:Nat) (g:G) (t:Nat) (rows:List (List D)):Prop:=t<B∧∃ ds,g[t]?=some (.lst ds)∧∀(i:Nat) (row:List D),rows[i]?=some row->∃ n,n<B∧ds[i]?=some (.ref n)∧g[n]?=some (.lst row)
theorem tabOf.b {N:Nat} {g:G} {t:Nat} {rows:List (List D)} (h:tabOf N g t rows):tabB g.length g t rows:=by
 obtain⟨_,ds,h1,h2,h3⟩:=h
 refine⟨ZF h1,ds,h1,fun i row hr=>?_⟩
 have hi:i<ds.length:=by rw [h2]; exact(List.getElem?_eq_some_iff.mp hr).1
 obtain⟨n,e,_,_,hn⟩:=h3 i ds[i] row (by simp) hr
 exact⟨n,ZF hn,by rw [← e]; simp,hn⟩
theorem tabB.mono {B:Nat} {S:List Nat} {g g1:G} {t:Nat} {rows:List (List D)} (h:tabB B g t rows) (k:Keeps S g g1) (hS:∀ n∈S,B≤n):tabB B g1 t rows:=by
 obtain⟨h0,ds,h1,h2⟩:=h
 refine⟨h0,ds,k.at' _ _ (fun z=>by have:=hS _ z; omega) h1,fun i row hr=>?_⟩
 obtain⟨n,a,b,c⟩:=h2 i row hr
 exact⟨n,a,b,k.at' _ _ (fun z=>by have:=hS _ z; omega) c⟩
noncomputable def QJ (c:Cf) (d:Nat):D:=.tup [.int c.st,.int c.pl,.ref d]
theorem Qir {rows:List (List D)} {n m B t d:Nat} {c:Cf} {ks:List (DK×D)} {g:G} (T:Tb rows n m) (hT:tabB B g t rows) (ho:OkC n m c) (hg:Good c) (hd:g[d]?=some (.dct ks)) (hc:Qha ks (marks c)) (hz:ks.length<1000) :
  (ZM rows c=none∧Jo [.ref t,QJ c d] g=.ok .non g)∨∃ c' ks' g',ZM rows c=some c'∧OkC n m c'∧Good c'∧Jo [.ref t,QJ c d] g=.ok (QJ c' g.length) g'∧Keeps [] g g'∧g'[g.length]?=some (.dct ks')∧∃ a:Int,0≤a∧ks'=putC ks c.pl a∧marks c'=YJ (marks c) c.pl a.toNat:=by
 obtain⟨row,e,hr,he,hent,hat⟩:=T.at ho.st (ho.sg T.m0)
 obtain⟨_,ds,ht,hrows⟩:=hT
 obtain⟨rn,_,hrn,hrow⟩:=hrows _ _ hr
 have hget:QeK (mVar 4) (mVar 3) (mLit (.int 0)) [some (.ref t),some (QJ c d),some (.int c.st),some (.int c.pl),some (.ref d),none,none] g=.ok (.int (((Qo c.R c.pl).getD 0:Nat):Int)) g:=by
  have:=hc _ _ hg.rd
  show(match g[d]? with
   | some (.dct _)=>(Res.ok (D.int c.pl) g).bind fun y g2=>(Res.ok (D.int 0) g2).bind fun z g3=>(match y with
    | .int i=>(match g3[d]? with
     | some (.dct ks)=>Res.ok ((dGet ks (.inl i)).getD z) g3
     | _=>.stuck)
    | _=>.stuck)
   | _=>.stuck)=_
  rw [hd]
  dsimp only
  rw [Res.bind_ok,Res.bind_ok]
  dsimp only
  rw [hd]
  dsimp only
  rw [this]
 have hent':mOp2 pIx (mOp2 pIx (mVar 0) (mVar 2)) (QeK (mVar 4) (mVar 3) (mLit (.int 0))) [some (.ref t),some (QJ c d),some (.int c.st),some (.int c.pl),some (.ref d),none,none] g=.ok e g :=
  Ql (x:=.ref rn) (g1:=g) (Ql (x:=.ref t) (y:=.int c.st) (g1:=g) (g2:=g) rfl rfl (Qda ht hrn)) hget (Qda hrow he)
 have hstart:Jo [.ref t,QJ c d] g=mDef 2 5 Jn [.ref t,QJ c d] g:=rfl
 rcases Qdc T ho hg with⟨h1,h2⟩ | ⟨a,b,y,c',h1,a0,am,b0,bn,yy,h2,e1,e2,e3,e4,e5⟩
 ·left
  rw [hat] at h1
  injection h1 with h1
  subst h1
  refine⟨h2,ZG rfl ?_⟩
  show Jn [some (.ref t),some (QJ c d),none,none,none,none,none] g=_
  unfold Jn
  exact Qg [some (.ref t),some (QJ c d),some (.int c.st),some (.int c.pl),some (.ref d),none,none] g rfl (Qg [some (.ref t),some (QJ c d),some (.int c.st),some (.int c.pl),some (.ref d),some .non,none] g (QM hent') (Jc rfl))
 ·right
  rw [hat] at h1
  injection h1 with h1
  subst h1
  have k1:Keeps [] g (g++[GO.dct ks]):=.push _
  have g1d:(g++[GO.dct ks])[g.length]?=some (.dct ks):=Zb _
  have hstr:pEq (.str y) (.str (Str.ofString "r"))=fun g=>.ok (.bl (decide (y=rS))) g:=by
   funext g
   rcases yy with rfl | rfl <;> rfl
  have fin:∀(ks':List (DK×D)) (g2:G),Keeps [] g g2->g2[g.length]?=some (.dct ks')->ks'=putC ks c.pl a ->
    mSeq (mIf (Qf (mOp2 pEq (mOp2 pIx (mVar 5) (mLit (.int 1))) (mLit (.str (Str.ofString "r"))))) (mRet (mOpA pTup (Qa (mOp2 pIx (mVar 5) (mLit (.int 2))) (Qa (mOp2 pAdd (mVar 3) (mLit (.int 1))) (Qa (mVar 6) mNil))))) QB) (mRet (mOpA pTup (Qa (mOp2 pIx (mVar 5) (mLit (.int 2))) (Qa (mOp2 pSub (mVar 3) (mLit (.int 1))) (Qa (mVar 6) mNil))))) [some (.ref t),some (QJ c d),some (.int c.st),some (.int c.pl),some (.ref d),some (.tup [.int a,.str y,.int b]),some (.ref g.length)] g2=.rt (QJ c' g.length) g2:=fun ks' g2 _ _ _=>by
   have t1:Qf (mOp2 pEq (mOp2 pIx (mVar 5) (mLit (.int 1))) (mLit (.str (Str.ofString "r")))) [some (.ref t),some (QJ c d),some (.int c.st),some (.int c.pl),some (.ref d),some (.tup [.int a,.str y,.int b]),some (.ref g.length)] g2=.ok (decide (y=rS)) g2:=QT (Ql (x:=.str y) (g1:=g2) (g2:=g2) rfl rfl (by rw [hstr]))
   have hb:D.int ((c'.st:Nat):Int)=.int b:=by rw [e1,Int.toNat_of_nonneg b0]
   by_cases z:y=rS
   ·rw [decide_eq_true z] at t1
    refine Jc (ift g2 t1 (ZS ?_))
    unfold QJ
    rw [hb,e2,if_pos z]
    rfl
   ·rw [decide_eq_false z] at t1
    refine Qg _ g2 (iff' g2 t1 rfl) (ZS ?_)
    unfold QJ
    rw [hb,e2,if_neg z]
    rfl
  have hput:QdQ (mVar 6) (mVar 3) (mOp2 pIx (mVar 5) (mLit (.int 0))) [some (.ref t),some (QJ c d),some (.int c.st),some (.int c.pl),some (.ref d),some (.tup [.int a,.str y,.int b]),some (.ref g.length)] (g++[GO.dct ks])=.nx [some (.ref t),some (QJ c d),some (.int c.st),some (.int c.pl),some (.ref d),some (.tup [.int a,.str y,.int b]),some (.ref g.length)] ((g++[GO.dct ks]).set g.length (GO.dct (dPut ks (.inl c.pl) (.int a)))):=by
   show(match (g++[GO.dct ks])[g.length]? with
    | some (.dct ks1)=>if ks1.length<SZ then Out.nx _ ((g++[GO.dct ks]).set g.length (GO.dct (dPut ks1 (.inl c.pl) (.int a)))) else .stuck
    | _=>.stuck)=_
   rw [g1d]
   dsimp only
   rw [if_pos (Nat.lt_of_lt_of_le hz (by decide))]
  have k2:Keeps [] g ((g++[GO.dct ks]).set g.length (GO.dct (dPut ks (.inl c.pl) (.int a)))):=⟨by simp,fun i o _ h=>by rw [List.getElem?_set_ne (by have:=ZF h; omega)]; exact k1.at' _ _ (by simp) h⟩
  have g2d:((g++[GO.dct ks]).set g.length (GO.dct (dPut ks (.inl c.pl) (.int a))))[g.length]?=some (GO.dct (dPut ks (.inl c.pl) (.int a))):=Q4 g1d
  have pre:∀(g3:G),mSeq (mIf (Qf (mOp2 pEq (mOp2 pIx (mVar 5) (mLit (.int 0))) (mLit (.int 0)))) (ZA (Qh3 (mVar 6) (mVar 3))) QB) (mSeq (mIf (Qf (mOp2 pEq (mOp2 pIx (mVar 5) (mLit (.int 1))) (mLit (.str (Str.ofString "r"))))) (mRet (mOpA pTup (Qa (mOp2 pIx (mVar 5) (mLit (.int 2))) (Qa (mOp2 pAdd (mVar 3) (mLit (.int 1))) (Qa (mVar 6) mNil))))) QB) (mRet (mOpA pTup (Qa (mOp2 pIx (mVar 5) (mLit (.int 2))) (Qa (mOp2 pSub (mVar 3) (mLit (.int 1))) (Qa (mVar 6) mNil)))))) [some (.ref t),some (QJ c d),some (.int c.st),some (.int c.pl),some (.ref d),some (.tup [.int a,.str y,.int b]),some (.ref g.length)] ((g++[GO.dct ks]).set g.length (GO.dct (dPut ks (.inl c.pl) (.int a))))=.rt (QJ c' g.length) g3 ->
    Jo [.ref t,QJ c d] g=.ok (QJ c' g.length) g3:=fun g3 h=>by
   refine ZG rfl ?_
   show Jn [some (.ref t),some (QJ c d),none,none,none,none,none] g=_
   unfold Jn
   refine Qg [some (.ref t),some (QJ c d),some (.int c.st),some (.int c.pl),some (.ref d),none,none] g rfl (Qg [some (.ref t),some (QJ c d),some (.int c.st),some (.int c.pl),some (.ref d),some (.tup [.int a,.str y,.int b]),none] g (QM hent') (Qg [some (.ref t),some (QJ c d),some (.int c.st),some (.int c.pl),some (.ref d),some (.tup [.int a,.str y,.int b]),none] g rfl (Qg [some (.ref t),some (QJ c d),some (.int c.st),some (.int c.pl),some (.ref d),some (.tup [.int a,.str y,.int b]),some (.ref g.length)] (g++[GO.dct ks]) (QM (Zu (x:=.ref d) (g1:=g) rfl ?_)) (Qg _ _ hput h))))
   unfold Qh2; dsimp only; rw [hd]
  have t0:Qf (mOp2 pEq (mOp2 pIx (mVar 5) (mLit (.int 0))) (mLit (.int 0))) [some (.ref t),some (QJ c d),some (.int c.st),some (.int c.pl),some (.ref d),some (.tup [.int a,.str y,.int b]),some (.ref g.length)] ((g++[GO.dct ks]).set g.length (GO.dct (dPut ks (.inl c.pl) (.int a))))=.ok (a == 0) ((g++[GO.dct ks]).set g.length (GO.dct (dPut ks (.inl c.pl) (.int a)))):=rfl
  generalize (g++[GO.dct ks]).set g.length (GO.dct (dPut ks (.inl c.pl) (.int a)))=g2 at hput k2 g2d pre t0
  by_cases z:a=0
  ·have hpc:putC ks c.pl a=QaC (dPut ks (.inl c.pl) (.int a)) (.inl c.pl):=by unfold putC; rw [if_pos z]
   have hpop:Qh3 (mVar 6) (mVar 3) [some (.ref t),some (QJ c d),some (.int c.st),some (.int c.pl),some (.ref d),some (.tup [.int a,.str y,.int b]),some (.ref g.length)] g2=.ok (.int a) (g2.set g.length (GO.dct (putC ks c.pl a))):=by
    show(match g2[g.length]? with
     | some (.dct _)=>(Res.ok (D.int c.pl) g2).bind fun y g2=>(match y with
      | .int i=>(match g2[g.length]? with
       | some (.dct ks)=>(match dGet ks (.inl i) with
        | some v=>Res.ok v (g2.set g.length (.dct (QaC ks (.inl i))))
        | none=>.stuck)
       | _=>.stuck)
      | _=>.stuck)
     | _=>.stuck)=_
    rw [g2d]
    dsimp only
    rw [Res.bind_ok]
    dsimp only
    rw [g2d]
    dsimp only
    rw [QaQ,if_pos rfl,hpc]
   have k3:Keeps [] g (g2.set g.length (GO.dct (putC ks c.pl a))):=⟨by simp; exact k2.len,fun i o _ h=>by rw [List.getElem?_set_ne (by have:=ZF h; omega)]; exact k2.at' _ _ (by simp) h⟩
   have g3d:(g2.set g.length (GO.dct (putC ks c.pl a)))[g.length]?=some (GO.dct (putC ks c.pl a)):=Q4 g2d
   refine⟨c',_,_,h2,e5,e4,pre _ (Qg _ _ (ift g2 (by rw [t0]; rw [z]; rfl) (YV hpop)) (fin _ _ k3 g3d rfl)),k3,g3d,a,a0,rfl,e3⟩
  ·have hpc:putC ks c.pl a=dPut ks (.inl c.pl) (.int a):=by unfold putC; rw [if_neg z]
   rw [← hpc] at g2d
   refine⟨c',_,_,h2,e5,e4,pre _ (Qg _ _ (iff' g2 (by rw [t0]; rw [beq_false_of_ne z]) rfl) (fin _ _ k2 g2d rfl)),k2,g2d,a,a0,rfl,e3⟩
end L3
end
section
namespace L3
open PySem
noncomputable abbrev Up (M:Mk'):Prop:=M.Pairwise fun a b=>a.1<b.1
noncomputable def sg:Mk'->Int->Nat
 | [],_=>0
 | p::r,x=>if p.1=x then p.2 else sg r x
theorem Qis {M:Mk'} (hn:∀ p∈M,p.2≠0) (x:Int):rdP M x (sg M x):=by
 induction M with
 | nil=>exact .inr ⟨rfl,fun p hp=>(List.not_mem_nil hp).elim⟩
 | cons p r ih =>
  unfold sg
  by_cases h:p.1=x
  ·rw [if_pos h]
   exact .inl ⟨hn p (List.mem_cons_self ..),by rw [← h]; exact List.mem_cons_self ..⟩
  ·rw [if_neg h]
   rcases ih (fun q hq=>hn q (List.mem_cons_of_mem _ hq)) with⟨a,b⟩ | ⟨a,b⟩
   ·exact .inl ⟨a,List.mem_cons_of_mem _ b⟩
   ·refine .inr ⟨a,fun q hq=>?_⟩
    rcases List.mem_cons.mp hq with rfl | hq
    ·exact h
    ·exact b q hq
theorem Qit {M:Mk'} (hu:Up M) (hn:∀ p∈M,p.2≠0) {x:Int} {s:Nat} (h:rdP M x s):sg M x=s:=rdP.fun hu (Qis hn x) h
theorem Qi8 {M:Mk'} (hu:Up M) (hn:∀ p∈M,p.2≠0) {p:Int×Nat}:p∈M↔p.2≠0∧sg M p.1=p.2:=by
 constructor
 ·intro h; exact⟨hn p h,Qit hu hn (.inl ⟨hn p h,h⟩)⟩
 ·intro ⟨h1,h2⟩
  rcases Qis hn p.1 with⟨_,b⟩ | ⟨a,_⟩
  ·rw [h2] at b; exact b
  ·omega
theorem Good.zero {c:Cf} (h:Good c):sg (marks c) c.pl=(Qo c.R c.pl).getD 0:=Qit h.up h.nz h.rd
theorem Qi9 {M:Mk'} {x:Int} {s:Nat} (hu:Up (YJ M x s)) (hn:∀ p∈YJ M x s,p.2≠0) (zM:∀ p∈M,p.2≠0) (y:Int):sg (YJ M x s) y=if y=x then s else sg M y:=by
 refine Qit hu hn ?_
 by_cases e:y=x
 ·rw [if_pos e]
  subst e
  by_cases z:s=0
  ·refine .inr ⟨z,fun p hp=>?_⟩
   unfold YJ at hp
   rw [if_pos z,List.append_nil] at hp
   rcases List.mem_append.mp hp with hp | hp
   ·have:=of_decide_eq_true (List.mem_filter.mp hp).2; omega
   ·have:=of_decide_eq_true (List.mem_filter.mp hp).2; omega
  ·refine .inl ⟨z,?_⟩
   unfold YJ
   rw [if_neg z]
   exact List.mem_append_left _ (List.mem_append_right _ (List.mem_singleton.mpr rfl))
 ·rw [if_neg e]
  rcases Qis zM y with⟨a,b⟩ | ⟨a,b⟩
  ·refine .inl ⟨a,?_⟩
   unfold YJ
   rcases Int.lt_trichotomy y x with q | q | q
   ·exact List.mem_append_left _ (List.mem_append_left _ (List.mem_filter.mpr ⟨b,decide_eq_true q⟩))
   ·exact absurd q e
   ·exact List.mem_append_right _ (List.mem_filter.mpr ⟨b,decide_eq_true q⟩)
  ·refine .inr ⟨a,fun p hp=>?_⟩
   unfold YJ at hp
   rcases List.mem_append.mp hp with hp | hp
   ·rcases List.mem_append.mp hp with hp | hp
    ·exact b p (List.mem_filter.mp hp).1
    ·split at hp
     ·cases hp
     ·rw [List.mem_singleton.mp hp]; exact fun z=>e z.symm
   ·exact b p (List.mem_filter.mp hp).1
structure Fine (n m:Nat) (c:Cf):Prop where
 ok:OkC n m c
 good:Good c
theorem Qkm {rows:List (List D)} {n m:Nat} {c:Cf} (T:Tb rows n m) (h:Fine n m c) :
  (Qd1 rows c.st (sg (marks c) c.pl)=some .non∧ZM rows c=none)∨∃(a b:Int) (y:Str) (c':Cf),Qd1 rows c.st (sg (marks c) c.pl)=some (.tup [.int a,.str y,.int b])∧ZM rows c=some c'∧c'.st=b.toNat∧c'.pl=(if y=rS then c.pl+1 else c.pl - 1)∧(∀ x,sg (marks c') x=if x=c.pl then a.toNat else sg (marks c) x)∧Fine n m c':=by
 rcases Qdc T h.ok h.good with⟨h1,h2⟩ | ⟨a,b,y,c',h1,a0,am,b0,bn,yy,h2,e1,e2,e3,e4,e5⟩
 ·exact .inl ⟨by rw [h.good.zero]; exact h1,h2⟩
 ·refine .inr ⟨a,b,y,c',by rw [h.good.zero]; exact h1,h2,e1,e2,fun x=>?_,e5,e4⟩
  have hu:=e4.up
  have hn:=e4.nz
  rw [e3] at hu hn ⊢
  exact Qi9 hu hn h.good.nz x
end L3
end
section
namespace L3
open PySem
theorem Qan {rows:List (List D)}:∀(k:Nat) (c:Cf),((runC rows k c).2=k∧((ZM rows (runC rows k c).1=none∧runC rows (k+1) c=runC rows k c)∨∃ d,ZM rows (runC rows k c).1=some d∧runC rows (k+1) c=(d,k+1)))∨((runC rows k c).2<k∧runC rows (k+1) c=runC rows k c)
 | 0,c=>by
  left
  refine⟨rfl,?_⟩
  cases h:ZM rows c with
  | none=>exact .inl ⟨h,by rw [Q5 h]; rfl⟩
  | some d=>exact .inr ⟨d,h,by rw [Zp h]; rfl⟩
 | k+1,c=>by
  cases h:ZM rows c with
  | none=>right; rw [Q5 h,Q5 h]; exact⟨by show 0<k+1; omega,rfl⟩
  | some c' =>
   rw [Zp h,Zp h]
   rcases Qan (rows:=rows) k c' with⟨a,b⟩ | ⟨a,b⟩
   ·left
    refine⟨by show(runC rows k c').2+1=k+1; rw [a],?_⟩
    rcases b with⟨b1,b2⟩ | ⟨d,b1,b2⟩
    ·exact .inl ⟨b1,by rw [b2]⟩
    ·exact .inr ⟨d,b1,by rw [b2]⟩
   ·right
    exact⟨by show(runC rows k c').2+1<k+1; omega,by rw [b]⟩
section
variable {rows:List (List D)} {n m:Nat}
noncomputable abbrev done (rows:List (List D)) (i:Nat):Prop:=(runC rows i c0).2=i
theorem Qmc (T:Tb rows n m):Fine n m c0:=⟨ok0 T,QmN⟩
theorem Qcx (T:Tb rows n m):∀(k:Nat) (c:Cf),Fine n m c->Fine n m (runC rows k c).1
 | 0,_,h=>h
 | k+1,c,h=>by
  rcases Qkm T h with⟨_,z⟩ | ⟨a,b,y,c1,h1,h2,e1,e2,e3,e4⟩
  ·rw [Q5 z]; exact h
  ·rw [Zp h2]; exact Qcx T k c1 e4
end
end L3
end
section
namespace L3
open PySem
theorem QeT (k:DK) (v:D):∀ ks:List (DK×D),Yu (ks.map fun p=>if p.1=k then (p.1,v) else p)=Yu ks
 | []=>rfl
 | p::r=>by
  have ih:=QeT k v r
  obtain⟨q,w⟩:=p
  rw [List.map_cons]
  by_cases h:q=k
  ·rw [if_pos h]
   cases q with
   | inl i=>show(Yu _).map _=(Yu r).map _; rw [ih]
   | inr s=>rfl
  ·rw [if_neg h]
   cases q with
   | inl i=>show(Yu _).map _=(Yu r).map _; rw [ih]
   | inr s=>rfl
theorem Qcy (x:Int) (v:D):∀ {ks:List (DK×D)} {is:List Int},Yu ks=some is->Yu (ks++[(.inl x,v)])=some (is++[x])
 | [],_,h=>by cases h; rfl
 | (.inl i,_)::r,is,h=>by
  have h:(Yu r).map (i :: ·)=some is:=h
  obtain⟨js,h1,h2⟩:=Option.map_eq_some_iff.mp h
  show(Yu (r++_)).map (i :: ·)=_
  rw [Qcy x v h1,← h2]; rfl
theorem Qde (x:Int):∀ {ks:List (DK×D)} {is:List Int},Yu ks=some is->Yu (QaC ks (.inl x))=some (is.filter fun i=>decide (i≠x))
 | [],_,h=>by cases h; rfl
 | (.inl i,_)::r,is,h=>by
  have h:(Yu r).map (i :: ·)=some is:=h
  obtain⟨js,h1,h2⟩:=Option.map_eq_some_iff.mp h
  have ih:=Qde x h1
  subst h2
  unfold QaC at ih ⊢
  rw [List.filter_cons,List.filter_cons]
  by_cases e:i=x
  ·subst e
   rw [if_neg (by simp),if_neg (by simp)]; exact ih
  ·rw [if_pos (by simp [e]),if_pos (by simp [e])]
   show(Yu _).map (i :: ·)=_
   rw [ih]; rfl
structure DOk (ks:List (DK×D)) (M:Mk'):Prop where
 get:∀ x,dGet ks (.inl x)=if sg M x=0 then none else some (.int (sg M x:Nat))
 keys:∃ is,Yu ks=some is∧is.Nodup∧∀ x,x∈is↔sg M x≠0
theorem dok0:DOk [] []:=⟨fun _=>rfl,[],rfl,.nil,fun x=>by simp [sg]⟩
theorem DOk.cells {ks:List (DK×D)} {c:Cf} (h:DOk ks (marks c)) (hg:Good c):Qha ks (marks c):=fun x s hr=>by
 rw [h.get,Qit hg.up hg.nz hr]
 by_cases z:s=0
 ·subst z; rfl
 ·rw [if_neg z]; rfl
theorem DOk.put {ks:List (DK×D)} {c c':Cf} {a:Int} (h:DOk ks (marks c)) (hg:Good c) (hg':Good c') (ha:0≤a) (e:marks c'=YJ (marks c) c.pl a.toNat):DOk (putC ks c.pl a) (marks c'):=by
 have hsg:∀ x,sg (marks c') x=if x=c.pl then a.toNat else sg (marks c) x:=fun x=>by
  have hu:=hg'.up
  have hn:=hg'.nz
  rw [e] at hu hn ⊢
  exact Qi9 hu hn hg.nz x
 obtain⟨is,k1,k2,k3⟩:=h.keys
 have hinj:∀ y:Int,((Sum.inl y:DK)=.inl c.pl)↔y=c.pl:=fun y=>⟨fun z=>by injection z,fun z=>by rw [z]⟩
 have kput:∃ js,Yu (dPut ks (.inl c.pl) (.int a))=some js∧js.Nodup∧∀ x,x∈js↔(x=c.pl∨x∈is):=by
  unfold dPut
  rw [QaP]
  by_cases z:sg (marks c) c.pl=0
  ·have hn:dGet ks (.inl c.pl)=none:=by rw [h.get,if_pos z]
   rw [hn,if_neg (by simp)]
   refine⟨is++[c.pl],Qcy _ _ k1,?_,fun x=>by simp; exact Or.comm⟩
   rw [List.nodup_append]
   refine⟨k2,by simp,fun x hx y hy=>?_⟩
   rw [List.mem_singleton.mp hy]
   intro q
   subst q
   exact(k3 _).mp hx z
  ·have hn:dGet ks (.inl c.pl)=some (.int (sg (marks c) c.pl:Nat)):=by rw [h.get,if_neg z]
   rw [hn,if_pos (show(some (D.int (sg (marks c) c.pl:Nat))).isSome=true from rfl),QeT]
   refine⟨is,k1,k2,fun x=>⟨.inr,fun q=>?_⟩⟩
   rcases q with q | q
   ·subst q; exact(k3 _).mpr z
   ·exact q
 obtain⟨js,j1,j2,j3⟩:=kput
 unfold putC
 by_cases z:a=0
 ·rw [if_pos z]
  refine⟨fun x=>?_,js.filter (fun i=>decide (i≠c.pl)),Qde _ j1,j2.filter _,fun x=>?_⟩
  ·rw [Qdd,QaQ,hsg]
   by_cases q:x=c.pl
   ·rw [if_pos ((hinj x).mpr q),if_pos q,if_pos (by omega)]
   ·rw [if_neg (fun w=>q ((hinj x).mp w)),if_neg (fun w=>q ((hinj x).mp w)),if_neg q]; exact h.get x
  ·rw [List.mem_filter,j3,hsg]
   by_cases q:x=c.pl
   ·rw [if_pos q]; subst z; simp [q]
   ·rw [if_neg q,← k3]; simp [q]
 ·rw [if_neg z]
  refine⟨fun x=>?_,js,j1,j2,fun x=>?_⟩
  ·rw [QaQ,hsg]
   by_cases q:x=c.pl
   ·rw [if_pos ((hinj x).mpr q),if_pos q,if_neg (by omega),Int.toNat_of_nonneg ha]
   ·rw [if_neg (fun w=>q ((hinj x).mp w)),if_neg q]; exact h.get x
  ·rw [j3,hsg]
   by_cases q:x=c.pl
   ·rw [if_pos q]; simp [q]; omega
   ·rw [if_neg q,← k3]; simp [q]
theorem DOk.sorted {ks:List (DK×D)} {c:Cf} {is:List Int} (h:DOk ks (marks c)) (hg:Good c) (hk:Yu ks=some is):Js is=(marks c).map (·.1):=by
 obtain⟨js,k1,k2,k3⟩:=h.keys
 rw [hk] at k1
 cases k1
 have hs:((marks c).map (·.1)).Pairwise (· < ·):=List.pairwise_map.mpr hg.up
 refine JF _ _ ((YF is).trans ?_) (Ja is) (hs.imp fun h=>Int.le_of_lt h)
 refine(List.perm_ext_iff_of_nodup k2 (hs.imp fun h=>Int.ne_of_lt h)).mpr fun x=>?_
 rw [k3]
 constructor
 ·intro z
  rcases Qis hg.nz x with⟨_,b⟩ | ⟨b,_⟩
  ·exact List.mem_map.mpr ⟨_,b,rfl⟩
  ·exact absurd b z
 ·intro z
  obtain⟨p,hp,rfl⟩:=List.mem_map.mp z
  have:=(Qi8 hg.up hg.nz).mp hp
  rw [this.2]; exact this.1
theorem Qdf:∀ is:List Int,Qaz (is.map D.int)=some is
 | []=>rfl
 | i::r=>by show(Qaz (r.map D.int)).map _=_; rw [Qdf r]; rfl
theorem Jv {f:List D->G->Res D} {a:MA} {σ:S3} {g g1:G} {xs:List D} {R:Res D} (h:a σ g=.ok xs g1) (h2:f xs g1=R):mOpA f a σ g=R:=by unfold mOpA; rw [h,Res.bind_ok,h2]
theorem QeU {c:Cf} {d:Nat} {ks:List (DK×D)} {g:G} (hd:g[d]?=some (.dct ks)) (h:DOk ks (marks c)) (hg:Good c) (hz:(marks c).length<900):∃ g',QaM [QJ c d] g=.ok (QK c) g'∧Keeps [] g g':=by
 obtain⟨is,k1,k2,k3⟩:=h.keys
 have hs:=h.sorted hg k1
 have hl:is.length=(marks c).length:=by
  have:=(YF is).length_eq
  rw [hs,List.length_map] at this
  exact this.symm
 have kk1:Keeps [] g (g++[.lst (is.map .int)]):=.push _
 have kk2:Keeps [] (g++[.lst (is.map .int)]) (g++[.lst (is.map .int)]++[.lst ((Js is).map .int)]):=.push _
 have hg2:(g++[GO.lst (is.map .int)]++[GO.lst ((Js is).map .int)])[(g++[GO.lst (is.map .int)]).length]?=some (.lst ((Js is).map .int)):=Zb _
 have hd2:=(kk1.trans kk2).at' _ _ (by simp) hd
 have e1:mOp1 JE (mOp1 QdR (mVar 3)) [some (QJ c d),some (.int c.st),some (.int c.pl),some (.ref d)] g=.ok (.ref (g++[GO.lst (is.map .int)]).length) (g++[.lst (is.map .int)]++[.lst ((Js is).map .int)]):=by
  refine Zu (x:=.ref g.length) (g1:=g++[.lst (is.map .int)]) (Zu (x:=.ref d) (g1:=g) rfl ?_) ?_
  ·unfold QdR
   dsimp only
   rw [hd]
   dsimp only
   rw [k1]
   dsimp only
   rw [if_pos (by omega)]
  ·unfold JE
   rw [Qg1 (Zb _)]
   dsimp only
   rw [Qdf]
 generalize g++[GO.lst (is.map .int)]++[GO.lst ((Js is).map .int)]=g2 at kk2 hg2 hd2 e1
 generalize (g++[GO.lst (is.map .int)]).length=q at hg2 e1
 rw [hs] at hg2
 have hit:ZN (mOp1 JE (mOp1 QdR (mVar 3))) [some (QJ c d),some (.int c.st),some (.int c.pl),some (.ref d)] g=.ok ⟨fun g i=>(match g[q]? with | some (.lst es)=>some es[i]? | _=>none),(marks c).length⟩ g2:=by
  unfold ZN
  rw [e1,Res.bind_ok]
  unfold QaY
  dsimp only
  rw [hg2]
  dsimp only
  rw [List.length_map,List.length_map]
  try rfl
 obtain⟨xs,σ',g3,h1,h2,h3,h4⟩:=Yq (src:=⟨fun g i=>(match g[q]? with | some (.lst es)=>some es[i]? | _=>none),(marks c).length⟩) (t:=gSet 0) (c:=Y2) (e:=mOpA pTup (Qa (mVar 0) (Qa (mOp2 pDIx (mVar 1) (mVar 0)) mNil))) (n:=(marks c).length)
  (fun i σ' g1 acc=>acc=mkD ((marks c).take i)∧g1=g2∧∃ u,σ'=[u,some (.ref d)]) (fun i σ' g1 acc hi hQ=>by
   obtain⟨h1,h2,u,h3⟩:=hQ
   subst h2 h3
   have hm:=(Qi8 hg.up hg.nz).mp (List.getElem_mem hi)
   refine⟨.int (marks c)[i].1,[some (.int (marks c)[i].1),some (.ref d)],g1,?_,rfl,.inl ⟨.tup [.int (marks c)[i].1,.int ((marks c)[i].2:Nat)],g1,rfl,?_,?_,rfl,_,rfl⟩⟩
   ·dsimp only
    rw [hg2]
    simp [hi]
   ·have:(Qa (mVar 0) (Qa (mOp2 pDIx (mVar 1) (mVar 0)) mNil)) [some (D.int (marks c)[i].1),some (D.ref d)] g1=.ok [.int (marks c)[i].1,.int ((marks c)[i].2:Nat)] g1:=by
     refine Qj (g1:=g1) rfl (Qj (g1:=g1) (Ql (x:=.ref d) (y:=.int (marks c)[i].1) (g1:=g1) (g2:=g1) rfl rfl ?_) rfl)
     unfold pDIx
     dsimp only
     rw [hd2]
     dsimp only
     rw [h.get,hm.2,if_neg hm.1]
    unfold mOpA
    rw [this,Res.bind_ok]
    rfl
   ·rw [h1,List.take_succ_eq_append_getElem hi]
    unfold mkD
    rw [List.map_append]; rfl) (fun σ g1 acc hQ=>by
   obtain⟨_,h2,_⟩:=hQ
   subst h2
   dsimp only
   rw [hg2]
   simp) ((marks c).length+1) 0 [none,some (.ref d)] g2 [] (by omega) (by omega) ⟨rfl,rfl,none,rfl⟩
 rw [List.take_length] at h2
 subst h2 h3
 have hc:=Qcs (σ0:=[none,some (.ref d)]) (n:=1) (cap:=[3]) hit (Nat.le_of_lt (Qam (show(marks c).length≤1000 by omega))) rfl h1
 refine⟨g3++[.lst (mkD (marks c))],ZG rfl ?_,(kk1.trans kk2).trans (.push _)⟩
 show Qcp [some (QJ c d),none,none,none] g=_
 unfold Qcp
 refine Qg [some (QJ c d),some (.int c.st),some (.int c.pl),some (.ref d)] g rfl (ZS ?_)
 have e3:(Qa (mVar 1) (Qa (mVar 2) (Qa (mOp1 Z7 (Y0 (ZN (mOp1 JE (mOp1 QdR (mVar 3)))) 1 [3] (gSet 0) Y2 (mOpA pTup (Qa (mVar 0) (Qa (mOp2 pDIx (mVar 1) (mVar 0)) mNil))))) mNil))) [some (QJ c d),some (.int c.st),some (.int c.pl),some (.ref d)] g=.ok [.int c.st,.int c.pl,.tup (mkD (marks c))] (g3++[.lst (mkD (marks c))]) :=
  Qj (g1:=g) rfl (Qj (g1:=g) rfl (Qj (Zu hc (by unfold Z7; dsimp only; rw [Zb])) rfl))
 exact Jv e3 rfl
end L3
end
section
namespace L3
open PySem
theorem Qd5 {rows:List (List D)}:∀(k:Nat) (c:Cf),(runC rows k c).2≤k
 | 0,c=>Nat.le_refl _
 | k+1,c=>by
  cases h:ZM rows c with
  | none=>rw [Q5 h]; exact Nat.zero_le _
  | some c'=>rw [Zp h]; have:=Qd5 (rows:=rows) k c'; show(runC rows k c').2+1≤_; omega
theorem Qbn {rows:List (List D)}:∀(k j:Nat) (c:Cf),ZM rows (runC rows k c).1=none->(runC rows k c).2≤j->runC rows j c=runC rows k c
 | 0,0,c,_,_=>rfl
 | 0,j+1,c,h,_=>by rw [Q5 (show ZM rows c=none from h)]; rfl
 | k+1,j,c,h,hj=>by
  cases hs:ZM rows c with
  | none =>
   rw [Q5 hs]
   cases j with
   | zero=>rfl
   | succ j=>rw [Q5 hs]
  | some c' =>
   rw [Zp hs] at h hj ⊢
   cases j with
   | zero=>exact absurd hj (by show ¬ (runC rows k c').2+1≤0; omega)
   | succ j =>
    rw [Zp hs,Qbn k j c' h (by have:(runC rows k c').2+1≤j+1:=hj; omega)]
noncomputable def ShR (g:G) (c:Cf) (x:D) (B:Nat):Prop:=∃ d ks,x=QJ c d∧g[d]?=some (.dct ks)∧DOk ks (marks c)∧ks.length≤B
theorem ShR.mono {S:List Nat} {g g1:G} {c:Cf} {x:D} {B:Nat} (h:ShR g c x B) (k:Keeps S g g1) (hS:∀ n∈S,∃ ds,g[n]?=some (.lst ds)):ShR g1 c x B:=by
 obtain⟨d,ks,h1,h2,h3,h4⟩:=h
 refine⟨d,ks,h1,k.at' _ _ (fun z=>?_) h2,h3,h4⟩
 obtain⟨ds,hd⟩:=hS _ z
 rw [h2] at hd; cases hd
theorem Qdg {rows:List (List D)} {n m B t r b:Nat} {steps:Int} {c:Cf} (T:Tb rows n m) (hF:Fine n m c) (hB:B≤r):∀(k j:Nat) (g:G) (ds:List D),(j:Int)+k=steps->(runC rows j c).2=j->tabB B g t rows->g[r]?=some (.lst ds)->ds.length=j+1->b+(j+k)<900->(∀ i,i≤j->∃ x,ds[i]?=some x∧ShR g (runC rows i c).1 x (b+j)) ->
  ∀ x,ds[j]?=some x->∃ g' ds',(Zd (Qf (mOp2 pLe (mOp1 pLen (mVar 3)) (mVar 2))) Zs (k+1) [some (.ref t),some x,some (.int steps),some (.ref r)] g=.rt (.ref r) g'∨∃ s',Zd (Qf (mOp2 pLe (mOp1 pLen (mVar 3)) (mVar 2))) Zs (k+1) [some (.ref t),some x,some (.int steps),some (.ref r)] g=.nx [some (.ref t),s',some (.int steps),some (.ref r)] g') ∧
   Keeps [r] g g'∧g'[r]?=some (.lst ds')∧ds'.length=(runC rows (j+k) c).2+1∧∀ i,i≤(runC rows (j+k) c).2->∃ y,ds'[i]?=some y∧ShR g' (runC rows i c).1 y (b+(j+k))
 | 0,j,g,ds,hs,hj,hT,hr,hl,hz,hall,x,hx=>by
  refine⟨g,ds,.inr ⟨some x,?_⟩,.refl,hr,by show ds.length=(runC rows j c).2+1; rw [hj]; exact hl,fun i hi=>?_⟩
  ·have t1:Qf (mOp2 pLe (mOp1 pLen (mVar 3)) (mVar 2)) [some (.ref t),some x,some (.int steps),some (.ref r)] g=.ok false g:=QT (Ql (x:=.int ds.length) (y:=.int steps) (g1:=g) (g2:=g) (Zu (x:=.ref r) (g1:=g) rfl (by unfold pLen; dsimp only; rw [hr])) rfl (by
    show Res.ok (D.bl (decide ((ds.length:Int)≤steps))) g=_
    rw [decide_eq_false (by omega)]))
   unfold Zd
   rw [t1]
  ·have hi:i≤(runC rows j c).2:=hi
   rw [hj] at hi
   obtain⟨y,h1,d,ks,h2,h3,h4,h5⟩:=hall i hi
   exact⟨y,h1,d,ks,h2,h3,h4,by omega⟩
 | k+1,j,g,ds,hs,hj,hT,hr,hl,hz,hall,x,hx=>by
  have t1:Qf (mOp2 pLe (mOp1 pLen (mVar 3)) (mVar 2)) [some (.ref t),some x,some (.int steps),some (.ref r)] g=.ok true g:=QT (Ql (x:=.int ds.length) (y:=.int steps) (g1:=g) (g2:=g) (Zu (x:=.ref r) (g1:=g) rfl (by unfold pLen; dsimp only; rw [hr])) rfl (by
   show Res.ok (D.bl (decide ((ds.length:Int)≤steps))) g=_
   rw [decide_eq_true (by omega)]))
  obtain⟨x',hx',d,ks,e1,e2,e3,e4⟩:=hall j (Nat.le_refl _)
  rw [hx] at hx'
  cases hx'
  subst e1
  have hFj:=Qcx T j c hF
  rcases Qir T hT hFj.ok hFj.good e2 (e3.cells hFj.good) (by omega) with⟨h1,h2⟩ | ⟨c',ks',g1,h1,o',w',h2,k1,h3,a,a0,h4,h5⟩
  ·have hst:=Qbn (rows:=rows) j (j+(k+1)) c h1 (by omega)
   rw [hst,hj]
   refine⟨g,ds,.inl ?_,.refl,hr,hl,fun i hi=>?_⟩
   ·have b1:Zs [some (.ref t),some (QJ (runC rows j c).1 d),some (.int steps),some (.ref r)] g=.rt (.ref r) g:=by
     unfold Zs
     exact Qg [some (.ref t),some .non,some (.int steps),some (.ref r)] g (QM (by rw [Qx (ds:=[.ref t,QJ (runC rows j c).1 d]) (g':=g) rfl]; exact h2)) (Jc rfl)
    unfold Zd
    rw [t1]
    dsimp only
    rw [b1]
   ·obtain⟨y,h1,d,ks,h2,h3,h4,h5⟩:=hall i hi
    exact⟨y,h1,d,ks,h2,h3,h4,by omega⟩
  ·have hr1:g1[r]?=some (.lst ds):=k1.at' _ _ (by simp) hr
   have hrl:r<g.length:=ZF hr
   have hnext:runC rows (j+1) c=(c',j+1):=by
    rcases Qan (rows:=rows) j c with⟨_,⟨b,_⟩ | ⟨d2,b,q⟩⟩ | ⟨q,_⟩
    ·rw [h1] at b; cases b
    ·rw [h1] at b; cases b; exact q
    ·omega
   have b1:Zs [some (.ref t),some (QJ (runC rows j c).1 d),some (.int steps),some (.ref r)] g=.nx [some (.ref t),some (QJ c' g.length),some (.int steps),some (.ref r)] (g1.set r (.lst (ds++[QJ c' g.length]))):=by
    unfold Zs
    exact Qg [some (.ref t),some (QJ c' g.length),some (.int steps),some (.ref r)] g1 (QM (by rw [Qx (ds:=[.ref t,QJ (runC rows j c).1 d]) (g':=g) rfl]; exact h2)) (Qg [some (.ref t),some (QJ c' g.length),some (.int steps),some (.ref r)] g1 rfl (Qc9 rfl hr1 rfl (Nat.lt_of_lt_of_le (show ds.length<1000 by omega) (by decide))))
   have k2:Keeps [r] g (g1.set r (.lst (ds++[QJ c' g.length]))):=(k1.all).trans (.set _ _)
   have hr2:(g1.set r (.lst (ds++[QJ c' g.length])))[r]?=some (.lst (ds++[QJ c' g.length])):=Q4 hr1
   have hd2:(g1.set r (.lst (ds++[QJ c' g.length])))[g.length]?=some (.dct ks'):=by rw [List.getElem?_set_ne (show r≠g.length by omega)]; exact h3
   generalize g1.set r (.lst (ds++[QJ c' g.length]))=g2 at b1 k2 hr2 hd2
   have hdok:DOk ks' (marks c'):=by rw [h4]; exact e3.put hFj.good w' a0 h5
   have hkl:ks'.length≤ks.length+1:=by rw [h4]; exact Qiq _ _ _
   obtain⟨g',ds',q1,q2,q3,q4,q5⟩:=Qdg (steps:=steps) (b:=b) T hF hB k (j+1) g2 (ds++[QJ c' g.length]) (by omega) (by rw [hnext]) (hT.mono k2 (fun n hn=>by rw [List.mem_singleton.mp hn]; exact hB)) hr2 (by simp [hl]) (by omega) (fun i hi=>by
    by_cases e:i=j+1
    ·subst e
     refine⟨QJ c' g.length,by simp [hl],g.length,ks',by rw [hnext],hd2,by rw [hnext]; exact hdok,by omega⟩
    ·obtain⟨y,z1,z2⟩:=hall i (by omega)
     refine⟨y,by rw [List.getElem?_append_left (by omega)]; exact z1,?_⟩
     obtain⟨d',ks2,z3,z4,z5,z6⟩:=z2.mono k2 (fun n hn=>⟨ds,by rw [List.mem_singleton.mp hn]; exact hr⟩)
     exact⟨d',ks2,z3,z4,z5,by omega⟩) (QJ c' g.length) (by simp [hl])
   have hw:Zd (Qf (mOp2 pLe (mOp1 pLen (mVar 3)) (mVar 2))) Zs (k+1+1) [some (.ref t),some (QJ (runC rows j c).1 d),some (.int steps),some (.ref r)] g=Zd (Qf (mOp2 pLe (mOp1 pLen (mVar 3)) (mVar 2))) Zs (k+1) [some (.ref t),some (QJ c' g.length),some (.int steps),some (.ref r)] g2:=by
    conv=>lhs; unfold Zd
    rw [t1]
    dsimp only
    rw [b1]
   rw [hw]
   rw [show j+1+k=j+(k+1) by omega] at q4 q5
   exact⟨g',ds',q1,k2.trans q2,q3,q4,q5⟩
theorem Qkn {rows:List (List D)} {n m t b:Nat} {c:Cf} {x:D} {g:G} (k:Nat) (hk:b+k<500) (T:Tb rows n m) (hF:Fine n m c) (hT:tabB g.length g t rows) (hx:ShR g c x b) :
  ∃ r g' ds',QdV [.ref t,x,.int k] g=.ok (.ref r) g'∧Keeps [] g g'∧g'[r]?=some (.lst ds')∧ds'.length=(runC rows k c).2+1∧∀ i,i≤(runC rows k c).2->∃ y,ds'[i]?=some y∧ShR g' (runC rows i c).1 y (b+k):=by
 have k0:Keeps [] g (g++[.lst [x]]):=.push _
 obtain⟨g',ds',q1,q2,q3,q4,q5⟩:=Qdg (r:=g.length) (steps:=k) (b:=b) T hF (Nat.le_refl _) k 0 (g++[.lst [x]]) [x] (by omega) rfl (hT.mono k0 (by simp)) (Zb _) rfl (by omega) (fun i hi=>by
  have:i=0:=by omega
  subst this
  refine⟨x,rfl,?_⟩
  obtain⟨d,ks,z3,z4,z5,z6⟩:=hx.mono k0 (by simp)
  exact⟨d,ks,z3,z4,z5,by omega⟩) x rfl
 rw [Nat.zero_add] at q4 q5
 refine⟨g.length,g',ds',ZG rfl ?_,⟨Nat.le_trans k0.len q2.len,fun i o _ h=>q2.at' _ _ (by have:=ZF h; simp; omega) (k0.at' _ _ (by simp) h)⟩,q3,q4,q5⟩
 show QdU [some (.ref t),some x,some (.int k),none] g=_
 unfold QdU
 refine Qg [some (.ref t),some x,some (.int k),some (.ref g.length)] (g++[.lst [x]]) (QM rfl) ?_
 rcases q1 with q1 | ⟨s',q1⟩
 ·exact Jc (Qcv q1 (by simp))
 ·exact Qg _ _ (Qcv q1 (by simp)) rfl
end L3
end
section
namespace L3
open PySem
noncomputable def cfM (st:Nat) (pl:Int) (M:Mk'):Cf:=⟨st,pl,M.filter (fun p=>decide (p.1<pl)),M.reverse.filter (fun p=>decide (pl≤p.1))⟩
noncomputable def shM (st pl:Int) (M:Mk'):D:=.tup [.int st,.int pl,.tup (mkD M)]
theorem QeV:∀ {M:Mk'} (pl:Int),(M.Pairwise fun a b=>a.1<b.1)->M.filter (fun p=>decide (p.1<pl))++M.filter (fun p=>decide (pl≤p.1))=M
 | [],_,_=>rfl
 | p::r,pl,h=>by
  have h':=List.pairwise_cons.mp h
  by_cases hp:p.1<pl
  ·rw [List.filter_cons_of_pos (p:=fun p:Int×Nat=>decide (p.1<pl)) (decide_eq_true hp),List.filter_cons_of_neg (by simpa using hp),List.cons_append,QeV pl h'.2]
  ·rw [List.filter_cons_of_neg (by simpa using hp),List.filter_cons_of_pos (by simpa using hp),J9 (M:=r) (fun q hq=>decide_eq_false (by have:=h'.1 q hq; omega)),YL (M:=r) (fun q hq=>decide_eq_true (by have:=h'.1 q hq; omega))]
   rfl
theorem Qbo {st:Nat} {pl:Int} {M:Mk'} (h:M.Pairwise fun a b=>a.1<b.1):marks (cfM st pl M)=M:=by
 unfold marks cfM
 dsimp only
 rw [List.filter_reverse,List.reverse_reverse]
 exact QeV pl h
theorem Qiu {st:Nat} {pl:Int} {M:Mk'} (h:M.Pairwise fun a b=>a.1<b.1) (hn:∀ p∈M,p.2≠0):Good (cfM st pl M) :=
 ⟨by rw [Qbo h]; exact h,by rw [Qbo h]; exact hn,fun p hp=>of_decide_eq_true (List.mem_filter.mp hp).2,fun p hp=>of_decide_eq_true (List.mem_filter.mp hp).2⟩
theorem Qhb {c:Cf} (h:Good c):cfM c.st c.pl (marks c)=c:=by
 obtain⟨_,h2,_⟩:=h.cut
 have h3:(marks c).reverse.filter (fun p=>decide (c.pl≤p.1))=c.R:=by
  unfold marks
  rw [List.reverse_append,List.reverse_reverse,List.filter_append,YL (fun p hp=>decide_eq_true (h.ge p hp)),J9 (fun p hp=>decide_eq_false (by have:=h.lt p (List.mem_reverse.mp hp); omega)),List.append_nil]
 unfold cfM
 rw [h2,h3]
theorem QbV {src:Src} {c:MT} {w:Nat} {Ms:Mk'} {g:G} (P:Int×Nat->Bool) (hsrc:∀ i,i≤Ms.length->src.at' g i=some (mkD Ms)[i]?) (htop:src.top=Ms.length) (hc:∀(x:Int) (s:Nat),c [some (.int x),some (.int s),some (.ref w)] g=.ok (P (x,s)) g) :
  YR src (Z6 [gSet 0,gSet 1]) c (mOpA pTup (Qa (mVar 0) (Qa (mVar 1) mNil))) (src.top+1) 0 [none,none,some (.ref w)] g []=.ok (mkD (Ms.filter P)) g:=by
 obtain⟨xs,σ',g3,c1,c2,c3,_⟩:=Yq (src:=src) (t:=Z6 [gSet 0,gSet 1]) (c:=c) (e:=mOpA pTup (Qa (mVar 0) (Qa (mVar 1) mNil))) (n:=Ms.length)
  (fun i σ' g4 acc=>acc=mkD ((Ms.take i).filter P)∧g4=g∧∃ u v,σ'=[u,v,some (.ref w)]) (fun i σ' g4 acc hi hQ=>by
   obtain⟨q1,q2,u,v,q3⟩:=hQ
   subst q2 q3
   have htk:Ms.take (i+1)=Ms.take i++[Ms[i]]:=List.take_succ_eq_append_getElem hi
   have hat:src.at' g4 i=some (some (.tup [.int Ms[i].1,.int (Ms[i].2:Nat)])):=by
    rw [hsrc i (by omega)]; unfold mkD; rw [List.getElem?_map,List.getElem?_eq_getElem hi]; rfl
   refine⟨_,[some (.int Ms[i].1),some (.int (Ms[i].2:Nat)),some (.ref w)],g4,hat,rfl,?_⟩
   have tc:=hc Ms[i].1 Ms[i].2
   cases hp:P Ms[i] with
   | true =>
    rw [show(Ms[i].1,Ms[i].2)=Ms[i] from rfl,hp] at tc
    refine .inl ⟨.tup [.int Ms[i].1,.int (Ms[i].2:Nat)],g4,tc,rfl,?_,rfl,_,_,rfl⟩
    rw [htk,List.filter_append,List.filter_cons_of_pos hp,q1]
    unfold mkD
    rw [List.map_append]; rfl
   | false =>
    rw [show(Ms[i].1,Ms[i].2)=Ms[i] from rfl,hp] at tc
    refine .inr ⟨tc,?_,rfl,_,_,rfl⟩
    rw [htk,List.filter_append,List.filter_cons_of_neg (by rw [hp]; exact Bool.false_ne_true),q1]
    simp) (fun σ g4 acc hQ=>by rw [hQ.2.1,hsrc _ (Nat.le_refl _),List.getElem?_eq_none (by rw [ZT]; exact Nat.le_refl _)]) (src.top+1) 0 [none,none,some (.ref w)] g [] (by omega) (by omega) ⟨rfl,rfl,none,none,rfl⟩
 rw [List.take_length] at c2
 subst c2 c3
 exact c1
theorem Qko (t s p l:D):(putG (Str.ofString "left_marks") l (putG (Str.ofString "place") p (putG (Str.ofString "state") s (putG (Str.ofString "table") t [])))).lookup (Str.ofString "place")=some p:=by
 rw [Zg,Zh,Zi,Qp]; rfl
theorem Qhc {rows:List (List D)} {M st:Nat} {pl:Int} {Ms:Mk'} {a:MA} {σ:S3} {g0 g:G} (ha:a σ g0=.ok [.ref M,shM st pl Ms] g) (hM:g[M]?=some (JN rows)) (hz:Ms.length≤900) :
  ∃ w l r g',QcP 12 YT a σ g0=.ok (.ref w) g'∧cRep rows w l r g' (cfM st pl Ms)∧Keeps [] g g'∧g.length≤w∧g.length≤l∧g.length≤r:=by
 have kp:Keeps [] g (g++[.ins 12 []]):=.push _
 have gw:(g++[.ins 12 []])[g.length]?=some (.ins 12 []):=Zb _
 have hl1:(g++[GO.ins 12 []]).length=g.length+1:=by simp
 generalize hw:g.length=w at gw hl1
 generalize hg1:g++[GO.ins 12 []]=g1 at gw kp hl1
 have hM1:=kp.at' _ _ (by simp) hM
 -- table
 have e1:=YI (cs:=[11,12]) (f:=Str.ofString "table") (e:=QF [11,12] (Str.ofString "table") (mVar 1)) (σ:=[some (.ref w),some (.ref M),some (shM st pl Ms)]) (Qfs rfl hM1) rfl gw (by simp) (by simp)
 have k1:Keeps [w] g1 (g1.set w (.ins 12 (putG (Str.ofString "table") (.tup (rows.map .tup)) []))):=.set _ _
 have gw1:(g1.set w (.ins 12 (putG (Str.ofString "table") (.tup (rows.map .tup)) [])))[w]?=some (.ins 12 (putG (Str.ofString "table") (.tup (rows.map .tup)) [])):=Q4 gw
 have hl2:(g1.set w (.ins 12 (putG (Str.ofString "table") (.tup (rows.map .tup)) []))).length=w+1:=by rw [List.length_set]; exact hl1
 generalize g1.set w (.ins 12 (putG (Str.ofString "table") (.tup (rows.map .tup)) []))=g2 at e1 k1 gw1 hl2
 have b1:=Qbm (Str.ofString "table") (.tup (rows.map .tup)) []
 have z0:([]:List (Str×D)).length=0:=rfl
 generalize hf1:putG (Str.ofString "table") (.tup (rows.map .tup)) []=f1 at gw1 b1
 -- state
 have e2:=YI (cs:=[12]) (f:=Str.ofString "state") (e:=mOp2 pIx (mVar 2) (mLit (.int 0))) (σ:=[some (.ref w),some (.ref M),some (shM st pl Ms)]) (g:=g2) (g1:=g2) (v:=.int st) rfl rfl gw1 (by simp) (by omega)
 have k2:Keeps [w] g2 (g2.set w (.ins 12 (putG (Str.ofString "state") (.int st) f1))):=.set _ _
 have gw2:(g2.set w (.ins 12 (putG (Str.ofString "state") (.int st) f1)))[w]?=some (.ins 12 (putG (Str.ofString "state") (.int st) f1)):=Q4 gw1
 have hl3:(g2.set w (.ins 12 (putG (Str.ofString "state") (.int st) f1))).length=w+1:=by rw [List.length_set]; exact hl2
 generalize g2.set w (.ins 12 (putG (Str.ofString "state") (.int st) f1))=g3 at e2 k2 gw2 hl3
 have b2:=Qbm (Str.ofString "state") (.int st) f1
 generalize hf2:putG (Str.ofString "state") (.int st) f1=f2 at gw2 b2
 -- place
 have e3:=YI (cs:=[12]) (f:=Str.ofString "place") (e:=mOp2 pIx (mVar 2) (mLit (.int 1))) (σ:=[some (.ref w),some (.ref M),some (shM st pl Ms)]) (g:=g3) (g1:=g3) (v:=.int pl) rfl rfl gw2 (by simp) (by omega)
 have k3:Keeps [w] g3 (g3.set w (.ins 12 (putG (Str.ofString "place") (.int pl) f2))):=.set _ _
 have gw3:(g3.set w (.ins 12 (putG (Str.ofString "place") (.int pl) f2)))[w]?=some (.ins 12 (putG (Str.ofString "place") (.int pl) f2)):=Q4 gw2
 have hl4:(g3.set w (.ins 12 (putG (Str.ofString "place") (.int pl) f2))).length=w+1:=by rw [List.length_set]; exact hl3
 generalize g3.set w (.ins 12 (putG (Str.ofString "place") (.int pl) f2))=g4 at e3 k3 gw3 hl4
 have b3:=Qbm (Str.ofString "place") (.int pl) f2
 have lk3:(putG (Str.ofString "place") (.int pl) f2).lookup (Str.ofString "place")=some (.int pl):=by rw [← hf2,← hf1]; exact Qma ..
 generalize hf3:putG (Str.ofString "place") (.int pl) f2=f3 at gw3 b3 lk3
 -- left_marks
 have ec:Y0 (ZN (mOp2 pIx (mVar 2) (mLit (.int 2)))) 2 [0] (Z6 [(gSet 0),(gSet 1)]) (Qf (mOp2 pLt (mVar 0) (QF [12] (Str.ofString "place") (mVar 2)))) (mOpA pTup (Qa (mVar 0) (Qa (mVar 1) mNil))) [some (.ref w),some (.ref M),some (shM st pl Ms)] g4=.ok (.ref g4.length) (g4++[.lst (mkD (Ms.filter fun p=>decide (p.1<pl)))]) :=
  Qcs (src:=⟨fun _ i=>some (mkD Ms)[i]?,(mkD Ms).length⟩) (σ0:=[none,none,some (.ref w)]) rfl (by show(mkD Ms).length≤SZ; rw [ZT]; exact Nat.le_of_lt (Qam (by omega))) rfl
   (QbV (fun p=>decide (p.1<pl)) (fun i _=>rfl) (ZT Ms) (fun x s=>QT (Ql (x:=.int x) (y:=.int pl) (g1:=g4) (g2:=g4) rfl (JO rfl gw3 (by simp) lk3) rfl)))
 have k5:Keeps [] g4 (g4++[.lst (mkD (Ms.filter fun p=>decide (p.1<pl)))]):=.push _
 have gl5:(g4++[.lst (mkD (Ms.filter fun p=>decide (p.1<pl)))])[w+1]?=some (.lst (mkD (Ms.filter fun p=>decide (p.1<pl)))):=by rw [← hl4]; exact Zb _
 have gw5:=k5.at' _ _ (by simp) gw3
 have hl5:(g4++[GO.lst (mkD (Ms.filter fun p=>decide (p.1<pl)))]).length=w+2:=by rw [List.length_append,hl4]; rfl
 have e4:=YI (cs:=[12]) (f:=Str.ofString "left_marks") (σ:=[some (.ref w),some (.ref M),some (shM st pl Ms)]) ec rfl gw5 (by simp) (by omega)
 rw [hl4] at e4
 generalize g4++[GO.lst (mkD (Ms.filter fun p=>decide (p.1<pl)))]=g5 at k5 gl5 gw5 hl5 e4
 have k6:Keeps [w] g5 (g5.set w (.ins 12 (putG (Str.ofString "left_marks") (.ref (w+1)) f3))):=.set _ _
 have gw6:(g5.set w (.ins 12 (putG (Str.ofString "left_marks") (.ref (w+1)) f3)))[w]?=some (.ins 12 (putG (Str.ofString "left_marks") (.ref (w+1)) f3)):=Q4 gw5
 have gl6:=k6.at' (w+1) _ (by simp) gl5
 have hl6:(g5.set w (.ins 12 (putG (Str.ofString "left_marks") (.ref (w+1)) f3))).length=w+2:=by rw [List.length_set]; exact hl5
 generalize g5.set w (.ins 12 (putG (Str.ofString "left_marks") (.ref (w+1)) f3))=g6 at k6 gw6 gl6 hl6 e4
 have b4:=Qbm (Str.ofString "left_marks") (.ref (w+1)) f3
 have lk4:(putG (Str.ofString "left_marks") (.ref (w+1)) f3).lookup (Str.ofString "place")=some (.int pl):=by rw [← hf3,← hf2,← hf1]; exact Qko ..
 generalize hf4:putG (Str.ofString "left_marks") (.ref (w+1)) f3=f4 at gw6 b4 lk4
 -- right_marks
 have er:Y0 (Qc0 (mOp2 pIx (mVar 2) (mLit (.int 2)))) 2 [0] (Z6 [(gSet 0),(gSet 1)]) (Qf (mOp2 pGe (mVar 0) (QF [12] (Str.ofString "place") (mVar 2)))) (mOpA pTup (Qa (mVar 0) (Qa (mVar 1) mNil))) [some (.ref w),some (.ref M),some (shM st pl Ms)] g6=.ok (.ref g6.length) (g6++[.lst (mkD (Ms.reverse.filter fun p=>decide (pl≤p.1)))]):=by
  have hit:Qc0 (mOp2 pIx (mVar 2) (mLit (.int 2))) [some (.ref w),some (.ref M),some (shM st pl Ms)] g6=.ok ⟨fun g i=>if i=(mkD Ms).length then some none else if i<(mkD Ms).length then (match QG g (.tup (mkD Ms)) with
   | some (_,es)=>if es.length=(mkD Ms).length then some es[(mkD Ms).length - 1 - i]? else none
   | none=>none) else none,(mkD Ms).length⟩ g6:=rfl
  refine Qcs (σ0:=[none,none,some (.ref w)]) hit (by show(mkD Ms).length≤SZ; rw [ZT]; exact Nat.le_of_lt (Qam (by omega))) rfl ?_
  refine QbV (fun p=>decide (pl≤p.1)) (fun i hi=>?_) (by rw [List.length_reverse]; exact ZT Ms) (fun x s=>QT (Ql (x:=.int x) (y:=.int pl) (g1:=g6) (g2:=g6) rfl (JO rfl gw6 (by simp) lk4) rfl))
  rw [List.length_reverse] at hi
  have hrev:mkD Ms.reverse=(mkD Ms).reverse:=by unfold mkD; rw [List.map_reverse]
  have hl:=ZT Ms
  dsimp only
  by_cases hi2:i=(mkD Ms).length
  ·rw [if_pos hi2,hrev,List.getElem?_eq_none (by rw [List.length_reverse]; omega)]
  ·rw [if_neg hi2,if_pos (by omega)]
   show(if (mkD Ms).length=(mkD Ms).length then some (mkD Ms)[(mkD Ms).length - 1 - i]? else none)=_
   rw [if_pos rfl,hrev,List.getElem?_reverse (by omega)]
 have k7:Keeps [] g6 (g6++[.lst (mkD (Ms.reverse.filter fun p=>decide (pl≤p.1)))]):=.push _
 have gr7:(g6++[.lst (mkD (Ms.reverse.filter fun p=>decide (pl≤p.1)))])[w+2]?=some (.lst (mkD (Ms.reverse.filter fun p=>decide (pl≤p.1)))):=by rw [← hl6]; exact Zb _
 have gw7:=k7.at' _ _ (by simp) gw6
 have gl7:=k7.at' _ _ (by simp) gl6
 have e5:=YI (cs:=[12]) (f:=Str.ofString "right_marks") (σ:=[some (.ref w),some (.ref M),some (shM st pl Ms)]) er rfl gw7 (by simp) (by omega)
 rw [hl6] at e5
 generalize g6++[GO.lst (mkD (Ms.reverse.filter fun p=>decide (pl≤p.1)))]=g7 at k7 gr7 gw7 gl7 e5
 have k8:Keeps [w] g7 (g7.set w (.ins 12 (putG (Str.ofString "right_marks") (.ref (w+2)) f4))):=.set _ _
 refine⟨w,w+1,w+2,g7.set w (.ins 12 (putG (Str.ofString "right_marks") (.ref (w+2)) f4)),?_,⟨?_,k8.at' _ _ (by simp) gl7,k8.at' _ _ (by simp) gr7,by omega,by omega,by omega⟩,?_,by omega,by omega,by omega⟩
 ·have:YT [.ref w,.ref M,shM st pl Ms] g1=.ok .non (g7.set w (.ins 12 (putG (Str.ofString "right_marks") (.ref (w+2)) f4))):=by
   refine QbS (σ:=[some (.ref w),some (.ref M),some (shM st pl Ms)]) rfl ?_
   show JG [some (.ref w),some (.ref M),some (shM st pl Ms)] g1=_
   unfold JG
   exact Qg _ _ e1 (Qg _ _ e2 (Qg _ _ e3 (Qg _ _ e4 e5)))
  unfold QcP
  rw [ha,Res.bind_ok,hw,hg1,this,Res.bind_ok]
 ·rw [Q4 gw7,← hf4,← hf3,← hf2,← hf1,Qkl]; rfl
 ·have kk:Keeps [w] g1 (g7.set w (.ins 12 (putG (Str.ofString "right_marks") (.ref (w+2)) f4))):=k1.trans (k2.trans (k3.trans (k5.all.trans (k6.trans (k7.all.trans k8)))))
  refine⟨Nat.le_trans kp.len kk.len,fun b o hb eb=>?_⟩
  have:b<w:=by rw [← hw]; exact ZF eb
  exact kk.at' b o (by simp; omega) (kp.at' b o hb eb)
end L3
end
section
namespace L3
open PySem
noncomputable def mkI (M:List (Int×Int)):List D:=M.map fun p=>D.tup [.int p.1,.int p.2]
theorem Qkp (M:Mk'):mkD M=mkI (M.map fun p=>(p.1,(p.2:Int))):=by unfold mkD mkI; rw [List.map_map]; rfl
noncomputable def shI (st pl:Int) (M:List (Int×Int)):D:=.tup [.int st,.int pl,.tup (mkI M)]
noncomputable def SgOk (m:Nat) (q:Int×Int):Prop:=(0≤q.2∧q.2<m)∧q.2≠0
noncomputable def Qiv (M:List (Int×Int)):Prop:=∀(i:Nat) (x y:Int×Int),M[i]?=some x->M[i+1]?=some y->x.1<y.1
noncomputable def ShOk (n m:Nat) (st:Int) (M:List (Int×Int)):Prop:=(0≤st∧st<n)∧(∀ q∈M,SgOk m q)∧Qiv M
theorem Qdh (i n:Int) (g:G):QL [.int i,.int n] g=.ok (.bl (decide (0≤i∧i<n))) g:=JM (.int i) n g .int rfl
theorem Qao {a b:MS} {σ σ':S3} {x:Xc} {g g':G} (h:a σ g=.raise x σ' g'):mSeq a b σ g=.raise x σ' g':=by unfold mSeq; rw [h]
theorem Qd6 {m:Nat} {M:List (Int×Int)} {x0 x1 x2 x4 x5 x6 x7:Option D} {g:G} :
  (∃ y4 y5,(∀ q∈M,SgOk m q)∧forL ⟨fun _ i=>some (mkI M)[i]?,(mkI M).length⟩ (Z6 [gSet 4,gSet 5]) Qw ((mkI M).length+1) 0 [x0,x1,x2,some (.int m),x4,x5,x6,x7] g=.nx [x0,x1,x2,some (.int m),y4,y5,x6,x7] g) ∨
  (∃ σ',(¬ ∀ q∈M,SgOk m q)∧forL ⟨fun _ i=>some (mkI M)[i]?,(mkI M).length⟩ (Z6 [gSet 4,gSet 5]) Qw ((mkI M).length+1) 0 [x0,x1,x2,some (.int m),x4,x5,x6,x7] g=.raise (4,none) σ' g):=by
 have hlen:(mkI M).length=M.length:=List.length_map _
 rcases Qax (t:=Z6 [gSet 4,gSet 5]) (body:=Qw) (ds:=mkI M) (σ:=[x0,x1,x2,some (.int m),x4,x5,x6,x7]) (g:=g)
  (fun i σ g'=>g'=g∧(∃ y4 y5,σ=[x0,x1,x2,some (.int m),y4,y5,x6,x7])∧∀(j:Nat) q,j<i->M[j]?=some q->SgOk m q)
  (fun o=>(¬ ∀ q∈M,SgOk m q)∧∃ σ',o=.raise (4,none) σ' g) ⟨rfl,⟨x4,x5,rfl⟩,fun j q hj=>by omega⟩ (fun i d σ g' hd hQ=>by
   obtain⟨q1,⟨y4,y5,q2⟩,q3⟩:=hQ
   subst q1 q2
   have hi:i<M.length:=by rw [← hlen]; exact(List.getElem?_eq_some_iff.mp hd).1
   have hd':d=.tup [.int M[i].1,.int M[i].2]:=by
    unfold mkI at hd; rw [List.getElem?_map,List.getElem?_eq_getElem hi] at hd; cases hd; rfl
   subst hd'
   refine⟨[x0,x1,x2,some (.int m),some (.int M[i].1),some (.int M[i].2),x6,x7],rfl,?_⟩
   have t1:Qf (QA QL (Qa (mVar 5) (Qa (mVar 3) mNil))) [x0,x1,x2,some (.int m),some (.int M[i].1),some (.int M[i].2),x6,x7] g'=.ok (decide (0≤M[i].2∧M[i].2<m)) g':=QT (by rw [Qx (ds:=[.int M[i].2,.int m]) (g':=g') rfl]; exact Qdh _ _ _)
   have t2:Qf (mOp2 pEq (mVar 5) (mLit (.int 0))) [x0,x1,x2,some (.int m),some (.int M[i].1),some (.int M[i].2),x6,x7] g'=.ok (M[i].2 == 0) g':=rfl
   have bad:¬ SgOk m M[i]->mOrT (YZ (Qf (QA QL (Qa (mVar 5) (Qa (mVar 3) mNil))))) (Qf (mOp2 pEq (mVar 5) (mLit (.int 0)))) [x0,x1,x2,some (.int m),some (.int M[i].1),some (.int M[i].2),x6,x7] g'=.ok true g':=fun hb=>by
    unfold mOrT YZ
    rw [t1,Res.bind_ok,Res.bind_ok]
    by_cases h:0≤M[i].2∧M[i].2<m
    ·rw [decide_eq_true h]
     show Qf (mOp2 pEq (mVar 5) (mLit (.int 0))) _ g'=_
     rw [t2]
     have:M[i].2=0:=Decidable.byContradiction fun z=>hb ⟨h,z⟩
     rw [this]; rfl
    ·rw [decide_eq_false h]; rfl
   by_cases hs:SgOk m M[i]
   ·left
    refine⟨[x0,x1,x2,some (.int m),some (.int M[i].1),some (.int M[i].2),x6,x7],g',?_,rfl,⟨_,_,rfl⟩,fun j q hj hq=>?_⟩
    ·unfold Qw
     refine iff' g' ?_ rfl
     unfold mOrT YZ
     rw [t1,Res.bind_ok,Res.bind_ok,decide_eq_true hs.1]
     show Qf (mOp2 pEq (mVar 5) (mLit (.int 0))) _ g'=_
     rw [t2,beq_eq_false_iff_ne.mpr hs.2]
    ·by_cases e:j<i
     ·exact q3 j q e hq
     ·have:j=i:=by omega
      subst this
      rw [List.getElem?_eq_getElem hi] at hq; cases hq; exact hs
   ·right
    have e:Qw [x0,x1,x2,some (.int m),some (.int M[i].1),some (.int M[i].2),x6,x7] g'=.raise (4,none) [x0,x1,x2,some (.int m),some (.int M[i].1),some (.int M[i].2),x6,x7] g':=by
     unfold Qw
     exact ift g' (bad hs) rfl
    rw [e]
    exact⟨trivial,fun z=>hs (z _ (List.getElem_mem hi)),_,rfl⟩) with⟨σ',g',e,h1,⟨y4,y5,h2⟩,h3⟩ | ⟨_,h1,σ',e⟩
 ·subst h1 h2
  refine .inl ⟨y4,y5,fun q hq=>?_,e⟩
  obtain⟨j,hj,rfl⟩:=List.getElem_of_mem hq
  exact h3 j M[j] (by rw [hlen]; exact hj) (by simp [hj])
 ·exact .inr ⟨σ',h1,e⟩
theorem Qdi {M:List (Int×Int)} {x0 x1 x2 x3 x4 x5 x6 x7:Option D} {g:G} {src:Src} (htop:src.top=M.length - 1) (hat:∀(i:Nat) x y,M[i]?=some x->M[i+1]?=some y->src.at' g i=some (some (.tup [.tup [.int x.1,.int x.2],.tup [.int y.1,.int y.2]]))) (hend:src.at' g (M.length - 1)=some none) :
  (∃ y6 y7,Qiv M∧forL src (Z6 [gSet 6,gSet 7]) QS (src.top+1) 0 [x0,x1,x2,x3,x4,x5,x6,x7] g=.nx [x0,x1,x2,x3,x4,x5,y6,y7] g) ∨
  (∃ σ',¬ Qiv M∧forL src (Z6 [gSet 6,gSet 7]) QS (src.top+1) 0 [x0,x1,x2,x3,x4,x5,x6,x7] g=.raise (4,none) σ' g):=by
 rcases JY (src:=src) (t:=Z6 [gSet 6,gSet 7]) (body:=QS) (n:=M.length - 1)
  (fun i σ g'=>g'=g∧(∃ y6 y7,σ=[x0,x1,x2,x3,x4,x5,y6,y7])∧∀(j:Nat) x y,j<i->M[j]?=some x->M[j+1]?=some y->x.1<y.1)
  (fun o=>(¬ Qiv M)∧∃ σ',o=.raise (4,none) σ' g) (fun i σ g' hi hQ=>by
   obtain⟨q1,⟨y6,y7,q2⟩,q3⟩:=hQ
   subst q1 q2
   have h1:i<M.length:=by omega
   have h2:i+1<M.length:=by omega
   refine⟨_,[x0,x1,x2,x3,x4,x5,some (.tup [.int M[i].1,.int M[i].2]),some (.tup [.int M[i+1].1,.int M[i+1].2])],hat i M[i] M[i+1] (by simp [h1]) (by simp [h2]),rfl,?_⟩
   have t1:Qf (mOp2 pGe (mOp2 pIx (mVar 6) (mLit (.int 0))) (mOp2 pIx (mVar 7) (mLit (.int 0)))) [x0,x1,x2,x3,x4,x5,some (.tup [.int M[i].1,.int M[i].2]),some (.tup [.int M[i+1].1,.int M[i+1].2])] g'=.ok (decide (M[i+1].1≤M[i].1)) g':=rfl
   by_cases hs:M[i].1<M[i+1].1
   ·rw [decide_eq_false (by omega)] at t1
    refine .inl ⟨_,g',.inl (iff' g' t1 rfl),rfl,⟨_,_,rfl⟩,fun j x y hj hx hy=>?_⟩
    by_cases e:j<i
    ·exact q3 j x y e hx hy
    ·have:j=i:=by omega
     subst this
     rw [List.getElem?_eq_getElem h1] at hx; cases hx
     rw [List.getElem?_eq_getElem h2] at hy; cases hy
     exact hs
   ·rw [decide_eq_true (by omega)] at t1
    have e:QS [x0,x1,x2,x3,x4,x5,some (.tup [.int M[i].1,.int M[i].2]),some (.tup [.int M[i+1].1,.int M[i+1].2])] g'=.raise (4,none) [x0,x1,x2,x3,x4,x5,some (.tup [.int M[i].1,.int M[i].2]),some (.tup [.int M[i+1].1,.int M[i+1].2])] g':=by
     unfold QS
     exact ift g' t1 rfl
    rw [e]
    exact .inr ⟨trivial,fun z=>hs (z i M[i] M[i+1] (by simp [h1]) (by simp [h2])),_,rfl⟩) (fun σ g' hQ=>by rw [hQ.1]; exact hend) (src.top+1) 0 [x0,x1,x2,x3,x4,x5,x6,x7] g (by omega) (by omega) ⟨rfl,⟨_,_,rfl⟩,fun j x y hj=>by omega⟩ with⟨σ',g',e,h1,⟨y6,y7,h2⟩,h3⟩ | ⟨_,h1,σ',e⟩
 ·subst h1 h2
  refine .inl ⟨y6,y7,fun i x y hx hy=>h3 i x y ?_ hx hy,e⟩
  have:=(List.getElem?_eq_some_iff.mp hy).1
  omega
 ·exact .inr ⟨σ',h1,e⟩
theorem Qaa {rows:List (List D)} {n m Mc:Nat} {st pl:Int} {M:List (Int×Int)} {g:G} (T:Tb rows n m) (hM:g[Mc]?=some (JN rows)) :
  (ShOk n m st M∧ZD [.ref Mc,shI st pl M] g=.ok .non g)∨(¬ ShOk n m st M∧ZD [.ref Mc,shI st pl M] g=.raise (4,none) g):=by
 have hst:ZV [.ref Mc] g=.ok (.int n) g:=by rw [Qc7 Mc rows g hM,T.len]
 have hsg:YH [.ref Mc] g=.ok (.int m) g:=by
  have:=T.n0
  have hl:=T.len
  cases rows with
  | nil=>simp at hl; omega
  | cons r rest=>rw [QdX Mc r rest g hM,T.row r (List.mem_cons_self ..)]
 have t1:Qf (QA QL (Qa (mOp2 pIx (mVar 1) (mLit (.int 0))) (Qa (QA ZV (Qa (mVar 0) mNil)) mNil))) [some (.ref Mc),some (shI st pl M),none,none,none,none,none,none] g=.ok (decide (0≤st∧st<n)) g:=by
  refine QT ?_
  rw [Qx (ds:=[.int st,.int n]) (g':=g) (Qj (g1:=g) rfl (Qj (g1:=g) (by rw [Qx (ds:=[.ref Mc]) (g':=g) rfl]; exact hst) rfl))]
  exact Qdh _ _ _
 by_cases h1:0≤st∧st<n
 ·rw [decide_eq_true h1] at t1
  have hhead:∀ R,(mSeq (mFor (ZN (mVar 2)) (Z6 [(gSet 4),(gSet 5)]) Qw) (mFor (QaZ (mVar 2) (Qa0 (mVar 2) (QcR (mLit (.int 1))) Jy)) (Z6 [(gSet 6),(gSet 7)]) QS)) [some (.ref Mc),some (shI st pl M),some (.tup (mkI M)),some (.int m),none,none,none,none] g=R->Z3 [some (.ref Mc),some (shI st pl M),none,none,none,none,none,none] g=R:=fun R hR=>by
   unfold Z3
   exact Qg _ g (iff' g (QbT t1) rfl) (Qg [some (.ref Mc),some (shI st pl M),some (.tup (mkI M)),none,none,none,none,none] g rfl (Qg [some (.ref Mc),some (shI st pl M),some (.tup (mkI M)),some (.int m),none,none,none,none] g (QM (by rw [Qx (ds:=[.ref Mc]) (g':=g) rfl]; exact hsg)) hR))
  have hf1:mFor (ZN (mVar 2)) (Z6 [(gSet 4),(gSet 5)]) Qw [some (.ref Mc),some (shI st pl M),some (.tup (mkI M)),some (.int m),none,none,none,none] g=forL ⟨fun _ i=>some (mkI M)[i]?,(mkI M).length⟩ (Z6 [gSet 4,gSet 5]) Qw ((mkI M).length+1) 0 [some (.ref Mc),some (shI st pl M),some (.tup (mkI M)),some (.int m),none,none,none,none] g:=rfl
  rcases Qd6 (m:=m) (M:=M) (x0:=some (.ref Mc)) (x1:=some (shI st pl M)) (x2:=some (.tup (mkI M))) (x4:=none) (x5:=none) (x6:=none) (x7:=none) (g:=g) with⟨y4,y5,h2,e2⟩ | ⟨σ',h2,e2⟩
  ·have hcut:cutD (mkI M) (some 1) none=(mkI M).drop 1:=by
    have hk:sIxD (mkI M).length 0 (some 1)=min 1 (mkI M).length:=rfl
    unfold cutD
    rw [hk]
    show List.take ((mkI M).length - min 1 (mkI M).length) (List.drop (min 1 (mkI M).length) (mkI M))=_
    rw [List.take_of_length_le (by rw [List.length_drop]; exact Nat.le_refl _)]
    cases mkI M with
    | nil=>rfl
    | cons a b=>rw [Nat.min_eq_left (by simp)]
   have hit:QaZ (mVar 2) (Qa0 (mVar 2) (QcR (mLit (.int 1))) Jy) [some (.ref Mc),some (shI st pl M),some (.tup (mkI M)),some (.int m),y4,y5,none,none] g=QbH (.tup (mkI M)) (.tup (cutD (mkI M) (some 1) none)) g:=rfl
   rw [hcut] at hit
   have hs:QbH (.tup (mkI M)) (.tup ((mkI M).drop 1)) g=.ok ⟨fun _ i=>(match (mkI M)[i]?,((mkI M).drop 1)[i]? with
    | some x,some y=>some (some (.tup [x,y]))
    | _,_=>some none),min (mkI M).length ((mkI M).drop 1).length⟩ g:=rfl
   rw [hs] at hit
   have hlen:(mkI M).length=M.length:=List.length_map _
   have hget:∀ i,(mkI M)[i]?=(M[i]?).map fun p:Int×Int=>D.tup [.int p.1,.int p.2]:=fun i=>by unfold mkI; rw [List.getElem?_map]
   rcases Qdi (M:=M) (x0:=some (.ref Mc)) (x1:=some (shI st pl M)) (x2:=some (.tup (mkI M))) (x3:=some (.int m)) (x4:=y4) (x5:=y5) (x6:=none) (x7:=none) (g:=g) (src:=⟨fun _ i=>(match (mkI M)[i]?,((mkI M).drop 1)[i]? with
    | some x,some y=>some (some (.tup [x,y]))
    | _,_=>some none),min (mkI M).length ((mkI M).drop 1).length⟩) (by show min (mkI M).length ((mkI M).drop 1).length=_; rw [List.length_drop,hlen]; omega) (fun i x y hx hy=>by
     dsimp only
     rw [List.getElem?_drop,Nat.add_comm 1 i,hget,hget,hx,hy]; rfl) (by
     dsimp only
     rw [List.getElem?_eq_none (show((mkI M).drop 1).length≤M.length - 1 by rw [List.length_drop,hlen]; exact Nat.le_refl _)]
     cases (mkI M)[M.length - 1]? <;> rfl) with⟨y6,y7,h3,e3⟩ | ⟨σ',h3,e3⟩
   ·exact .inl ⟨⟨h1,h2,h3⟩,QbS rfl (hhead _ (Qg _ g (hf1.trans e2) ((QbR hit).trans e3)))⟩
   ·exact .inr ⟨fun z=>h3 z.2.2,J7 rfl (hhead _ (Qg _ g (hf1.trans e2) ((QbR hit).trans e3)))⟩
  ·exact .inr ⟨fun z=>h2 z.2.1,J7 rfl (hhead _ (Qao (hf1.trans e2)))⟩
 ·rw [decide_eq_false h1] at t1
  refine .inr ⟨fun z=>h1 z.1,J7 (σ:=[some (.ref Mc),some (shI st pl M),none,none,none,none,none,none]) rfl ?_⟩
  show Z3 [some (.ref Mc),some (shI st pl M),none,none,none,none,none,none] g=_
  unfold Z3
  refine Qao (ift g ?_ rfl)
  unfold YZ
  rw [t1]; rfl
end L3
end
section
namespace L3
open PySem
section
variable {rows:List (List D)} {n m:Nat}
theorem Qd7 (T:Tb rows n m):∀(k:Nat) (c:Cf),OkC n m c->(runC rows k c).1.L.length+(runC rows k c).1.R.length≤c.L.length+c.R.length+k:=by
 intro k
 induction k with
 | zero=>intro c _; exact Nat.le_refl _
 | succ k ih =>
  intro c hc
  obtain⟨row,d,hr,hdd,hent,hat⟩:=T.at hc.st (hc.sg T.m0)
  cases hs:ZM rows c with
  | none=>rw [Q5 hs]; show c.L.length+c.R.length≤_; omega
  | some c' =>
   rw [Zp hs]
   have hg:(goL d c.pl c.L c.R).map (fun x=>(⟨x.1,x.2.1,x.2.2.1,x.2.2.2⟩:Cf))=some c':=by
    unfold ZM at hs; rw [hat] at hs; exact hs
   obtain⟨o',l'⟩:=Qd3 (rows:=rows) hc hent hg
   have:=ih c' o'
   show(runC rows k c').1.L.length+(runC rows k c').1.R.length≤_
   omega
end
noncomputable def Sm (f:Nat) (d:D):Prop:=∀ g,∃ g',Zz f [d,d] g=.ok (.bl true) g'∧Keeps [] g g'
theorem QbW (f:Nat) (i:Int):Sm (f+1) (.int i):=fun g=>by
 refine⟨g,ZG rfl ?_,.refl⟩
 show JW (Zz f) [some (.int i),some (.int i)] g=_
 unfold JW
 refine Qg [some (.int i),some (.int i)] g rfl (Qg [some (.int i),some (.int i)] g rfl (Qg [some (.int i),some (.int i)] g rfl (ZS ?_)))
 show Res.ok (D.bl (i == i)) g=_
 rw [beq_self_eq_true]
theorem Qiw (k:Nat):allB (List.replicate k (D.bl true))=some true:=by
 induction k with
 | zero=>rfl
 | succ k ih=>rw [List.replicate_succ,allB,ih]; rfl
theorem Qix {x y:D} {b:Bool} {ds:List D} (f:Nat) (g:G) (hx:QG g x=some (b,ds)) (hy:QG g y=some (b,ds)) (hk:∀ d g1,(∀ z,QG g d=some z->QG g1 d=some z)->(d=x∨d=y)->tyOf g1 d=some (if b=true then Ty.list else Ty.tuple)) (hz:ds.length≤1000) (h:∀ d∈ds,Sm f d)
  (hl:∀ d,d=x∨d=y->pLen d g=.ok (.int ds.length) g):∃ g',Zz (f+1) [x,y] g=.ok (.bl true) g'∧Keeps [] g g':=by
 obtain⟨src,s1,s2,s3⟩:=Qkf (g:=g) (d1:=x) (d2:=y) hx hy rfl
 obtain⟨xs,σ',g',c1,c2,k1,_⟩:=Yq (src:=src) (t:=Z6 [gSet 0,gSet 1]) (c:=Y2) (e:=QA (Zz f) (Qa (mVar 0) (Qa (mVar 1) mNil))) (n:=ds.length)
  (fun i σ' g1 acc=>acc=List.replicate i (.bl true)∧Keeps [] g g1∧∃ u v,σ'=[u,v]) (fun i σ' g1 acc hi hQ=>by
   obtain⟨h1,h2,u,v,h3⟩:=hQ
   subst h3
   obtain⟨g2,e2,k2⟩:=h ds[i] (List.getElem_mem hi) g1
   refine⟨.tup [ds[i],ds[i]],[some ds[i],some ds[i]],g1,(s3 g1 (h2.seq hx) (h2.seq hy)).2 i _ _ (List.getElem?_eq_getElem hi) (List.getElem?_eq_getElem hi),rfl,.inl ⟨.bl true,g2,rfl,?_,?_,h2.trans k2,_,_,rfl⟩⟩
   ·rw [Qx (ds:=[ds[i],ds[i]]) (g':=g1) rfl]; exact e2
   ·rw [h1,List.replicate_succ']) (fun σ g1 acc hQ=>(s3 g1 (hQ.2.1.seq hx) (hQ.2.1.seq hy)).1) (src.top+1) 0 [none,none] g [] (by omega) (by omega) ⟨rfl,.refl,none,none,rfl⟩
 subst c2
 have hit:QaZ (mVar 0) (mVar 1) [some x,some y] g=.ok src g:=s1
 have c3:=Qcs (n:=2) (cap:=[]) (t:=Z6 [gSet 0,gSet 1]) (c:=Y2) (e:=QA (Zz f) (Qa (mVar 0) (Qa (mVar 1) mNil))) (σ0:=[none,none]) hit (by rw [s2]; exact Nat.le_of_lt (Qam hz)) rfl c1
 have tx:=hk x g (fun _ z=>z) (.inl rfl)
 have ty:=hk y g (fun _ z=>z) (.inr rfl)
 have isx:∀(c:Ty) ,mOp1 (ZL c) (mVar 0) [some x,some y] g=.ok (.bl (tyLe (if b=true then Ty.list else Ty.tuple) c)) g:=fun c=>Zu rfl (by unfold ZL; rw [tx])
 have isy:∀(c:Ty) ,mOp1 (ZL c) (mVar 1) [some x,some y] g=.ok (.bl (tyLe (if b=true then Ty.list else Ty.tuple) c)) g:=fun c=>Zu rfl (by unfold ZL; rw [ty])
 have q1:Qf (mOp1 (ZL .dict) (mVar 1)) [some x,some y] g=.ok false g:=QT ((isy .dict).trans (by cases b <;> rfl))
 have q2:mOrT (Qf (mOp1 (ZL .list) (mVar 1))) (Qf (mOp1 (ZL .tuple) (mVar 1))) [some x,some y] g=.ok true g:=by
  unfold mOrT
  rw [QT (isy .list),Res.bind_ok]
  cases b with
  | true=>rfl
  | false=>exact QT ((isy .tuple).trans rfl)
 have q3:mOrT (Qf (mOp2 pNe (mOp1 (ZL .list) (mVar 0)) (mOp1 (ZL .list) (mVar 1)))) (Qf (mOp2 pNe (mOp1 (ZL .tuple) (mVar 0)) (mOp1 (ZL .tuple) (mVar 1)))) [some x,some y] g=.ok false g:=by
  have z:∀ c,Qf (mOp2 pNe (mOp1 (ZL c) (mVar 0)) (mOp1 (ZL c) (mVar 1))) [some x,some y] g=.ok false g:=fun c=>QT (Ql (isx c) (isy c) (by
   generalize tyLe (if b=true then Ty.list else Ty.tuple) c=t
   cases t <;> rfl))
  unfold mOrT
  rw [z .list,Res.bind_ok,if_neg Bool.false_ne_true]
  exact z .tuple
 refine⟨g'++[.lst (List.replicate ds.length (.bl true))],ZG rfl ?_,k1.trans (.push _)⟩
 show JW (Zz f) [some x,some y] g=_
 unfold JW
 refine Qg [some x,some y] g (iff' g q1 rfl) (Jc (ift g q2 (Qg [some x,some y] g (iff' g q3 rfl) (ZS ?_))))
 unfold mAnd
 rw [Ql (x:=.int ds.length) (y:=.int ds.length) (g1:=g) (g2:=g) (R:=.ok (.bl true) g) (Zu (x:=x) (g1:=g) rfl (hl x (.inl rfl))) (Zu (x:=y) (g1:=g) rfl (hl y (.inr rfl))) (by rw [eq_int,beq_self_eq_true]),Res.bind_ok]
 dsimp only
 rw [if_pos rfl]
 refine Zu c3 ?_
 unfold pAll
 dsimp only
 rw [Zb]
 dsimp only
 rw [Qiw]
theorem Qdj (f:Nat) (ds:List D) (hz:ds.length≤1000) (h:∀ d∈ds,Sm f d):Sm (f+1) (.tup ds):=fun g =>
 Qix (b:=false) f g rfl rfl (fun d g1 _ hd=>by rcases hd with rfl | rfl <;> rfl) hz h (fun d hd=>by rcases hd with rfl | rfl <;> rfl)
theorem Qhd (f:Nat) (c:Cf) (hz:(marks c).length≤1000):Sm (f+4) (QK c):=by
 refine Qdj _ _ (show 3≤1000 by decide) fun d hd=>?_
 rcases List.mem_cons.mp hd with rfl | hd
 ·exact QbW _ _
 ·rcases List.mem_cons.mp hd with rfl | hd
  ·exact QbW _ _
  ·rw [List.mem_singleton.mp hd]
   refine Qdj _ _ (by rw [ZT]; exact hz) fun d hd=>?_
   obtain⟨p,_,rfl⟩:=List.mem_map.mp hd
   refine Qdj _ _ (show 2≤1000 by decide) fun d hd=>?_
   rcases List.mem_cons.mp hd with rfl | hd
   ·exact QbW _ _
   ·rw [List.mem_singleton.mp hd]; exact QbW _ _
end L3
end
section
namespace L3
open PySem
section
variable {rows:List (List D)} {n m:Nat}
theorem Qhe (c:Cf):QK c=shI c.st c.pl ((marks c).map fun p=>(p.1,(p.2:Int))):=by
 unfold QK shI
 rw [Qkp]; rfl
theorem Qkq {c:Cf} (h:Fine n m c):ShOk n m c.st ((marks c).map fun p=>(p.1,(p.2:Int))):=by
 refine⟨⟨by omega,by have:=h.ok.st; omega⟩,fun q hq=>?_,fun i x y hx hy=>?_⟩
 ·obtain⟨p,hp,rfl⟩:=List.mem_map.mp hq
  have h1:=h.good.nz p hp
  have h2:p.2<m:=by
   rcases List.mem_append.mp hp with z | z
   ·exact h.ok.L p z
   ·exact h.ok.R p (List.mem_reverse.mp z)
  exact⟨⟨by show(0:Int)≤(p.2:Int); omega,by show(p.2:Int)<m; omega⟩,by show(p.2:Int)≠0; omega⟩
 ·have hj:=(List.getElem?_eq_some_iff.mp hy).1
  rw [List.length_map] at hj
  rw [List.getElem?_map,List.getElem?_eq_getElem (by omega)] at hx
  rw [List.getElem?_map,List.getElem?_eq_getElem hj] at hy
  cases hx; cases hy
  exact List.pairwise_iff_getElem.mp h.good.up i (i+1) (by omega) hj (by omega)
theorem YM (c:Cf):(marks c).length=c.L.length+c.R.length:=by unfold marks; rw [List.length_append,List.length_reverse]
theorem Zt {M k:Nat} {c:Cf} {g:G} (T:Tb rows n m) (hF:Fine n m c) (hk:c.L.length+c.R.length+k<700) (hM:g[M]?=some (JN rows)) :
  ∃ g',Qz [.ref M,QK c,.int k] g=.ok (.tup [QK (runC rows k c).1,.int (runC rows k c).2]) g'∧Keeps [] g g':=by
 have hc:ZD [.ref M,QK c] g=.ok .non g:=by
  rw [Qhe]
  rcases Qaa (st:=c.st) (pl:=c.pl) (M:=(marks c).map fun p=>(p.1,(p.2:Int))) T hM with⟨_,e⟩ | ⟨z,_⟩
  ·exact e
  ·exact absurd (Qkq hF) z
 obtain⟨w,l,r,g1,e1,W1,k1,h1,h2,h3⟩:=Qhc (rows:=rows) (a:=Qa (mVar 0) (Qa (mVar 1) mNil)) (σ:=[some (.ref M),some (QK c),some (.int k),none,none]) (g0:=g) (g:=g) (M:=M) (st:=c.st) (pl:=c.pl) (Ms:=marks c) rfl hM (by rw [YM]; omega)
 rw [Qhb hF.good] at W1
 obtain⟨g2,e2,W2,k2,o2⟩:=Ql9 (k:=k) (c:=c) T hF.ok (by omega) W1
 have hz:=Qd7 T k c hF.ok
 refine⟨g2,ZG rfl ?_,KW.old k2 k1 h1 h2 h3⟩
 show Z4 [some (.ref M),some (QK c),some (.int k),none,none] g=_
 unfold Z4
 refine Qg _ g (YV (d:=.non) (g':=g) (by rw [Qx (ds:=[.ref M,QK c]) (g':=g) rfl]; exact hc)) (Qg [some (.ref M),some (QK c),some (.int k),some (.ref w),none] g1 (QM e1) (Qg [some (.ref M),some (QK c),some (.int k),some (.ref w),some (.int (runC rows k c).2)] g2 (QM (by rw [Jd rfl W1.w' (Ql8 ..) (xs:=[.int k]) (g2:=g1) rfl]; exact e2)) (ZS ?_)))
 exact Jv (Qj (by rw [Jd rfl W2.w' (Qki ..) rfl]; exact Qkk (by omega) W2) rfl) rfl
theorem Qiy {M k:Nat} {g:G} (T:Tb rows n m) (hk:k<600) (hM:g[M]?=some (JN rows)) :
  ∃ g',QdT [.ref M,.int k] g=.ok (.tup [QK (runC rows k c0).1,.int (runC rows k c0).2]) g'∧Keeps [] g g':=by
 obtain⟨g',e,kk⟩:=Zt (c:=c0) (k:=k) T (Qmc T) (by show 0+0+k<700; omega) hM
 refine⟨g',ZG rfl (ZS ?_),kk⟩
 rw [Qx (ds:=[.ref M,QK c0,.int k]) (g':=g) rfl]
 exact e
theorem QeW {a:ME} {σ:S3} {x:Xc} {g g':G} (h:a σ g=.raise x g'):ZA a σ g=.raise x σ g':=by unfold ZA; rw [h]
theorem QfB {M:Nat} {st pl:Int} {Ms:List (Int×Int)} {g:G} (T:Tb rows n m) (hM:g[M]?=some (JN rows)) (hb:¬ ShOk n m st Ms):∃ g',JK [.ref M,shI st pl Ms] g=.ok (.bl true) g'∧Keeps [] g g':=by
 have hc:ZD [.ref M,shI st pl Ms] g=.raise (4,none) g:=by
  rcases Qaa (st:=st) (pl:=pl) (M:=Ms) T hM with⟨z,_⟩ | ⟨_,e⟩
  ·exact absurd z hb
  ·exact e
 have ha:Qz [.ref M,shI st pl Ms,.int 3] g=.raise (4,none) g:=by
  refine J7 (σ:=[some (.ref M),some (shI st pl Ms),some (.int 3),none,none]) rfl ?_
  show Z4 [some (.ref M),some (shI st pl Ms),some (.int 3),none,none] g=_
  unfold Z4
  exact Qao (QeW (by rw [Qx (ds:=[.ref M,shI st pl Ms]) (g':=g) rfl]; exact hc))
 have k2:Keeps [] g (g++[.exc (4,none)]):=.push _
 have q2:(g++[GO.exc (4,none)])[g.length]?=some (.exc (4,none)):=Zb _
 have e2:mTry (ZA (QA Qz (Qa (mVar 0) (Qa (mVar 1) (Qa (mLit (.int 3)) mNil))))) [⟨[0,1,2,3,4,5,6,7,8,9,10],[],some 3,(mAsg (gSet 2) (mVar 3))⟩] [some (.ref M),some (shI st pl Ms),some .non,none] g=.nx [some (.ref M),some (shI st pl Ms),some (.ref g.length),none] (g++[.exc (4,none)]):=by
  unfold mTry
  rw [QeW (x:=(4,none)) (g':=g) (by rw [Qx (ds:=[.ref M,shI st pl Ms,.int 3]) (g':=g) rfl]; exact ha)]
  rfl
 generalize g++[GO.exc (4,none)]=g2 at k2 q2 e2
 have isx:∀ cs:List Nat,mOp1 (Zn [0,1,2,3,4,5,6,7,8,9,10] cs) (mVar 2) [some (.ref M),some (shI st pl Ms),some (.ref g.length),none] g2=.ok (.bl (decide (4∈cs))) g2:=fun cs=>Zu (x:=.ref g.length) (g1:=g2) rfl (by unfold Zn; dsimp only; rw [q2]; dsimp only; rw [if_pos (by decide)])
 have no:∀ cs:List Nat,decide (4∈cs)=false->Qf (mOp1 (Zn [0,1,2,3,4,5,6,7,8,9,10] cs) (mVar 2)) [some (.ref M),some (shI st pl Ms),some (.ref g.length),none] g2=.ok false g2:=fun cs h=>by rw [QT (isx cs),h]
 refine⟨g2,ZG rfl ?_,k2⟩
 show JJ [some (.ref M),some (shI st pl Ms),none,none] g=_
 unfold JJ
 refine Qg [some (.ref M),some (shI st pl Ms),some .non,none] g rfl (Qg _ g2 e2 ?_)
 refine Qg _ g2 (iff' g2 (QdY (g1:=g2) rfl (QdY (no _ rfl) (QdY (no _ rfl) (no _ rfl)))) rfl) ?_
 refine Qg _ g2 (iff' g2 (QdY (no _ rfl) (QdY (no _ rfl) (no _ rfl))) rfl) ?_
 refine Qg _ g2 (iff' g2 (QdY (no _ rfl) (QdY (no _ rfl) (no _ rfl))) rfl) (ZS ?_)
 unfold mAnd
 rw [isx,Res.bind_ok]
 show mOp1 (Zn [0,1,2,3,4,5,6,7,8,9,10] [0,1,2,3,4,5,6,7,8,9,10]) (mVar 2) [some (.ref M),some (shI st pl Ms),some (.ref g.length),none] g2=_
 rw [isx]; rfl
end
theorem QeX {rows:List (List D)}:∀(a b:Nat) (c:Cf),runC rows (a+b) c=((runC rows b (runC rows a c).1).1,(runC rows a c).2+(runC rows b (runC rows a c).1).2)
 | 0,b,c=>by rw [Nat.zero_add]; show _=((runC rows b c).1,0+(runC rows b c).2); rw [Nat.zero_add]
 | a+1,b,c=>by
  rw [Nat.add_right_comm]
  cases hs:ZM rows c with
  | none =>
   rw [Q5 hs,Q5 hs]
   dsimp only
   cases b with
   | zero=>rfl
   | succ b=>rw [Q5 hs]; rfl
  | some c' =>
   rw [Zp hs,Zp hs,QeX a b c']
   dsimp only
   rw [Nat.add_right_comm]
end L3
end
section
namespace L3
open PySem
theorem Qkr {M:Mk'} {x:Int} (h:∀ p∈M,p.1≠x):sg M x=0:=by
 induction M with
 | nil=>rfl
 | cons p r ih =>
  unfold sg
  rw [if_neg (h p (List.mem_cons_self ..))]
  exact ih fun q hq=>h q (List.mem_cons_of_mem _ hq)
theorem Qhf {M:Mk'} {x:Int} {s:Nat} (h:∀ p∈M,p.1≠x) (y:Int):sg (M++[(x,s)]) y=if y=x then s else sg M y:=by
 induction M with
 | nil =>
  show(if x=y then s else 0)=if y=x then s else 0
  by_cases e:y=x
  ·rw [if_pos e,if_pos e.symm]
  ·rw [if_neg e,if_neg (Ne.symm e)]
 | cons p r ih =>
  have hp:=h p (List.mem_cons_self ..)
  show(if p.1=y then p.2 else sg (r++[(x,s)]) y)=if y=x then s else (if p.1=y then p.2 else sg r y)
  rw [ih fun q hq=>h q (List.mem_cons_of_mem _ hq)]
  by_cases e:p.1=y
  ·rw [if_pos e,if_pos e,if_neg (fun z=>hp (e.trans z))]
  ·rw [if_neg e,if_neg e]
theorem DOk.snoc {ks:List (DK×D)} {M:Mk'} {x:Int} {s:Nat} (h:DOk ks M) (hx:∀ p∈M,p.1≠x) (hs:s≠0):DOk (dPut ks (.inl x) (.int (s:Nat))) (M++[(x,s)]):=by
 have h0:sg M x=0:=Qkr hx
 have hg:dGet ks (.inl x)=none:=by rw [h.get,if_pos h0]
 obtain⟨is,k1,k2,k3⟩:=h.keys
 refine⟨fun y=>?_,is++[x],?_,?_,fun y=>?_⟩
 ·rw [QaQ,Qhf hx]
  by_cases e:y=x
  ·rw [if_pos (by rw [e]),if_pos e,if_neg hs]
  ·rw [if_neg (fun z=>e (Sum.inl.inj z)),if_neg e]; exact h.get y
 ·unfold dPut
  rw [QaP,hg,if_neg (by simp)]
  exact Qcy x _ k1
 ·rw [List.nodup_append]
  refine⟨k2,by simp,fun a ha b hb=>?_⟩
  rw [List.mem_singleton.mp hb]
  exact fun z=>(k3 a).mp ha (by rw [z]; exact h0)
 ·rw [List.mem_append,List.mem_singleton,k3,Qhf hx]
  by_cases e:y=x
  ·rw [if_pos e]; exact⟨fun _=>hs,fun _=>.inr e⟩
  ·rw [if_neg e]; exact⟨fun z=>z.resolve_right e,.inl⟩
structure NearM (pl:Int) (m j:Nat) (M:Mk'):Prop where
 up:M.Pairwise fun a b=>a.1<b.1
 nz:∀ p∈M,p.2≠0
 sg:∀ p∈M,p.2<m
 pl:∀ p∈M,p.1<pl+j - 6
 len:M.length≤j
theorem NearM.snoc {pl:Int} {m j s:Nat} {M:Mk'} (h:NearM pl m j M) (h0:s≠0) (hm:s<m):NearM pl m (j+1) (M++[(pl+j - 6,s)]):=by
 refine⟨List.pairwise_append.mpr ⟨h.up,by simp,fun a ha b hb=>?_⟩,fun p hp=>?_,fun p hp=>?_,fun p hp=>?_,by simp; exact h.len⟩
 ·rw [List.mem_singleton.mp hb]; exact h.pl a ha
 ·rcases List.mem_append.mp hp with z | z
  ·exact h.nz p z
  ·rw [List.mem_singleton.mp z]; exact h0
 ·rcases List.mem_append.mp hp with z | z
  ·exact h.sg p z
  ·rw [List.mem_singleton.mp z]; exact hm
 ·rcases List.mem_append.mp hp with z | z
  ·have:=h.pl p z; omega
  ·rw [List.mem_singleton.mp z]; show pl+j - 6<pl+((j+1:Nat):Int) - 6; omega
theorem NearM.more {pl:Int} {m j k:Nat} {M:Mk'} (h:NearM pl m j M) (hj:j≤k):NearM pl m k M:=⟨h.up,h.nz,h.sg,fun p hp=>by have:=h.pl p hp; omega,Nat.le_trans h.len hj⟩
theorem Qks {d:Nat} {ks:List (DK×D)} {k:Int} {y:D} {σ:S3} {g:G} {o i v:ME} (hv:v σ g=.ok y g) (ho:o σ g=.ok (.ref d) g) (hi:i σ g=.ok (.int k) g) (h:g[d]?=some (.dct ks)) (hz:ks.length≤1000) :
  QdQ o i v σ g=.nx σ (g.set d (.dct (dPut ks (.inl k) y))):=by
 unfold QdQ
 rw [hv]; dsimp only
 rw [ho]; dsimp only
 rw [hi]; dsimp only
 rw [h]; dsimp only
 rw [if_pos (Qam hz)]
noncomputable def Qiz (g:G) (d:Nat) (pl:Int) (m j:Nat):Prop:=∃ ks M,g[d]?=some (.dct ks)∧DOk ks M∧NearM pl m j M∧ks.length≤j
theorem QfC (ns:List Int) {a d m j:Nat} {pl k:Int} {x2 x4 x8:Option D} {g:G} (hm:0<m) (had:a≠d) (hj:j≤100) (ga:g[a]?=some (.lst [.int k])) (hk:0≤k) (hk2:k<900000000) (hC:Qiz g d pl m j) :
  ∃ y8 g',ZE [some (.fl (ns.map .int)),some (.ref a),x2,some (.int m),x4,some (.int pl),some (.ref d),some (.int j),x8] g=.nx [some (.fl (ns.map .int)),some (.ref a),x2,some (.int m),x4,some (.int pl),some (.ref d),some (.int j),y8] g'∧Keeps [a,d] g g'∧g'[a]?=some (.lst [.int (k+1)])∧Qiz g' d pl m (j+1):=by
 obtain⟨q,q0,q1,e1⟩:=Qbi ns a k g ga hk (by omega)
 have k1:Keeps [a] g (g.set a (.lst [.int (k+1)])):=.set _ _
 have ga1:(g.set a (.lst [.int (k+1)]))[a]?=some (.lst [.int (k+1)]):=Q4 ga
 generalize g.set a (.lst [.int (k+1)])=g1 at e1 k1 ga1
 obtain⟨ks,M,h1,h2,h3,h4⟩:=hC
 have h1':=k1.at' _ _ (fun z=>had (List.mem_singleton.mp z).symm) h1
 have hm':(0:Int)<m:=by omega
 have s0:=Int.emod_nonneg q (show(m:Int)≠0 by omega)
 have s1:=Int.emod_lt_of_pos q hm'
 obtain⟨s,hs⟩:∃ s:Nat,q % m=s:=⟨(q % m).toNat,by omega⟩
 have e2:mAsg (gSet 8) (mOp2 pMod (QA Yb (Qa (mVar 0) (Qa (mVar 1) mNil))) (mVar 3)) [some (.fl (ns.map .int)),some (.ref a),x2,some (.int m),x4,some (.int pl),some (.ref d),some (.int j),x8] g=.nx [some (.fl (ns.map .int)),some (.ref a),x2,some (.int m),x4,some (.int pl),some (.ref d),some (.int j),some (.int s)] g1:=by
  rw [← hs]
  exact QM (Ql (x:=.int q) (y:=.int m) (g1:=g1) (g2:=g1) (by rw [Qx (ds:=[.fl (ns.map .int),.ref a]) (g':=g) rfl]; exact e1) rfl (modP hm'))
 have t1:Qf (mOp2 pGt (mVar 8) (mLit (.int 0))) [some (.fl (ns.map .int)),some (.ref a),x2,some (.int m),x4,some (.int pl),some (.ref d),some (.int j),some (.int s)] g1=.ok (decide ((0:Int)<s)) g1:=rfl
 by_cases hp:0<s
 ·rw [decide_eq_true (by omega)] at t1
  refine⟨some (.int s),g1.set d (.dct (dPut ks (.inl (pl+j - 6)) (.int s))),?_,(k1.mono (by simp)).trans ((Keeps.set _ _).mono (by simp)),by rw [List.getElem?_set_ne (Ne.symm had)]; exact ga1,_,_,Q4 h1',h2.snoc (fun p hp=>by have:=h3.pl p hp; omega) (by omega),h3.snoc (by omega) (by omega),Nat.le_trans (Qcw _ _ _) (by omega)⟩
  unfold ZE
  exact Qg _ g1 e2 (ift g1 t1 (Qks rfl rfl rfl h1' (by omega)))
 ·rw [decide_eq_false (by omega)] at t1
  refine⟨some (.int s),g1,?_,k1.mono (by simp),ga1,ks,M,h1',h2,h3.more (by omega),by omega⟩
  unfold ZE
  exact Qg _ g1 e2 (iff' g1 t1 rfl)
theorem powP {i j:Int} {g:G} (h:cP i j):pPow (.int i) (.int j) g=.ok (.int (i ^ j.toNat)) g:=by unfold pPow; dsimp only; rw [if_pos h]
theorem QiA (ns:List Int) {a n m:Nat} {k:Int} {g:G} (hn:0<n) (hm:0<m) (ga:g[a]?=some (.lst [.int k])) (hk:0≤k) (hk2:k<800000000) :
  ∃(st:Nat) (pl:Int) (M:Mk') (d:Nat) (ks:List (DK×D)) (g':G) (k':Int),Qbg [.fl (ns.map .int),.ref a,.int n,.int m] g=.ok (.tup [.int st,.int pl,.ref d]) g'∧st<n∧Keeps [a] g g'∧g'[a]?=some (.lst [.int k'])∧k≤k'∧k'≤k+20∧g'[d]?=some (.dct ks)∧DOk ks M∧NearM pl m 12 M∧ks.length≤12∧g.length≤d:=by
 have hal:=ZF ga
 obtain⟨q,q0,q1,e1⟩:=Qbi ns a k g ga hk (by omega)
 have k1:Keeps [a] g (g.set a (.lst [.int (k+1)])):=.set _ _
 have ga1:(g.set a (.lst [.int (k+1)]))[a]?=some (.lst [.int (k+1)]):=Q4 ga
 have hl1:(g.set a (.lst [.int (k+1)])).length=g.length:=List.length_set
 generalize g.set a (.lst [.int (k+1)])=g1 at e1 k1 ga1 hl1
 have p5:mOp2 pPow (mLit (.int 10)) (mLit (.int 50)) [some (.fl (ns.map .int)),some (.ref a),some (.int n),some (.int m),some (.int q),none,none,none,none] g1=.ok (.int (10 ^ (50:Int).toNat)) g1:=Ql (x:=.int 10) (y:=.int 50) (g1:=g1) (g2:=g1) rfl rfl (powP (by decide))
 generalize (10:Int) ^ (50:Int).toNat=z5 at p5
 have eN:mOpA newL (Qa (mLit (.int 0)) (Qa (mLit (.int 3)) (Qa (mOp1 pNeg (mLit (.int 7))) (Qa (mOp2 pPow (mLit (.int 10)) (mLit (.int 50))) (Qa (mOp1 pNeg (mOp2 pPow (mLit (.int 10)) (mLit (.int 50)))) mNil))))) [some (.fl (ns.map .int)),some (.ref a),some (.int n),some (.int m),some (.int q),none,none,none,none] g1=.ok (.ref g1.length) (g1++[.lst [.int 0,.int 3,.int (-7),.int z5,.int (-z5)]]):=Jv (Qj (g1:=g1) rfl (Qj (g1:=g1) rfl (Qj (g1:=g1) rfl (Qj p5 (Qj (Zu p5 rfl) rfl))))) rfl
 have k2:Keeps [] g1 (g1++[.lst [.int 0,.int 3,.int (-7),.int z5,.int (-z5)]]):=.push _
 have p2:(g1++[GO.lst [.int 0,.int 3,.int (-7),.int z5,.int (-z5)]])[g1.length]?=some (.lst [.int 0,.int 3,.int (-7),.int z5,.int (-z5)]):=Zb _
 generalize g1++[GO.lst [.int 0,.int 3,.int (-7),.int z5,.int (-z5)]]=g2 at eN k2 p2
 have r0:=Int.emod_nonneg q (show(5:Int)≠0 by decide)
 have r1:=Int.emod_lt_of_pos q (show(0:Int)<5 by decide)
 have hpick:∃ b,[D.int 0,.int 3,.int (-7),.int z5,.int (-z5)][(q % 5).toNat]?=some (.int b):=by
  rcases(by omega:q % 5=0∨q % 5=1∨q % 5=2∨q % 5=3∨q % 5=4) with e | e | e | e | e <;> rw [e] <;> exact⟨_,rfl⟩
 obtain⟨b,hb⟩:=hpick
 have e3:mOp2 pAdd (mOp2 pIx (mOpA newL (Qa (mLit (.int 0)) (Qa (mLit (.int 3)) (Qa (mOp1 pNeg (mLit (.int 7))) (Qa (mOp2 pPow (mLit (.int 10)) (mLit (.int 50))) (Qa (mOp1 pNeg (mOp2 pPow (mLit (.int 10)) (mLit (.int 50)))) mNil)))))) (mOp2 pMod (mVar 4) (mLit (.int 5)))) (mOp2 pMod (mOp2 Z1 (mVar 4) (mLit (.int 5))) (mLit (.int 9))) [some (.fl (ns.map .int)),some (.ref a),some (.int n),some (.int m),some (.int q),none,none,none,none] g1=.ok (.int (b+q / 5 % 9)) g2 :=
  Ql (x:=.int b) (y:=.int (q / 5 % 9)) (g1:=g2) (g2:=g2) (Ql (x:=.ref g1.length) (y:=.int (q % 5)) (g1:=g2) (g2:=g2) eN (Ql rfl rfl (modP (by decide))) (Ql6 p2 r0 hb)) (Ql (x:=.int (q / 5)) (y:=.int 9) (g1:=g2) (g2:=g2) (Ql rfl rfl (divP (by decide) (by decide))) rfl (modP (by decide))) rfl
 generalize b+q / 5 % 9=pl at e3
 have k3:Keeps [] g2 (g2++[.dct []]):=.push _
 have c3:Qiz (g2++[.dct []]) g2.length pl m 0:=⟨[],[],Zb _,dok0,⟨.nil,(fun p h=>by cases h),(fun p h=>by cases h),(fun p h=>by cases h),Nat.le_refl _⟩,Nat.le_refl _⟩
 have ga3:=(k2.trans k3).at' _ _ (by simp) ga1
 have e4:Qj4 [some (.fl (ns.map .int)),some (.ref a),some (.int n),some (.int m),some (.int q),some (.int pl),none,none,none] g2=.ok (.ref g2.length) (g2++[.dct []]):=rfl
 have hgl:g.length≤g2.length:=by have:=k2.len; omega
 generalize g2++[GO.dct []]=g3 at k3 c3 ga3 e4
 have hd:a≠g2.length:=by omega
 generalize g2.length=d at c3 e4 hd hgl
 have w0:=Int.emod_nonneg (q / 45) (show(13:Int)≠0 by decide)
 have w1:=Int.emod_lt_of_pos (q / 45) (show(0:Int)<13 by decide)
 have hw:((q / 45 % 13).toNat:Int)=q / 45 % 13:=by omega
 obtain⟨σ',g4,e5,⟨y7,y8,i1⟩,i2,i3,i4⟩:=JZ (t:=gSet 7) (body:=ZE) (lo:=0) (n:=(q / 45 % 13).toNat) (σ:=[some (.fl (ns.map .int)),some (.ref a),some (.int n),some (.int m),some (.int q),some (.int pl),some (.ref d),none,none]) (g:=g3)
  (fun j σ g4=>(∃ y7 y8,σ=[some (.fl (ns.map .int)),some (.ref a),some (.int n),some (.int m),some (.int q),some (.int pl),some (.ref d),y7,y8])∧Keeps [a,d] g3 g4∧g4[a]?=some (.lst [.int (k+1+j)])∧Qiz g4 d pl m j) ⟨⟨_,_,rfl⟩,.refl,by simpa using ga3,c3⟩ (fun j σ g4 hj hQ=>by
   obtain⟨⟨y7,y8,i1⟩,i2,i3,i4⟩:=hQ
   subst i1
   obtain⟨z8,g5,e6,k6,a6,c6⟩:=QfC ns (x2:=some (.int n)) (x4:=some (.int q)) (x8:=y8) hm hd (by omega) i3 (by omega) (by omega) i4
   refine⟨_,[some (.fl (ns.map .int)),some (.ref a),some (.int n),some (.int m),some (.int q),some (.int pl),some (.ref d),some (.int j),z8],g5,rfl,?_,⟨_,_,rfl⟩,i2.trans k6,?_,c6⟩
   ·show ZE [some (.fl (ns.map .int)),some (.ref a),some (.int n),some (.int m),some (.int q),some (.int pl),some (.ref d),some (.int (0+j)),y8] g4=_
    rw [Int.zero_add]; exact e6
   ·rw [a6,show k+1+(j:Int)+1=k+1+((j+1:Nat):Int) by omega])
 subst i1
 obtain⟨ks,M,h1,h2,h3,h4⟩:=i4
 have hn':(0:Int)<n:=by omega
 have v0:=Int.emod_nonneg (q / 600) (show(n:Int)≠0 by omega)
 have v1:=Int.emod_lt_of_pos (q / 600) hn'
 obtain⟨st,hst⟩:∃ st:Nat,q / 600 % n=st:=⟨(q / 600 % n).toNat,by omega⟩
 refine⟨st,pl,M,d,ks,g4,k+1+((q / 45 % 13).toNat:Int),ZG rfl ?_,by omega,?_,i3,by omega,by omega,h1,h2,h3.more (by omega),by omega,hgl⟩
 ·show Qbf [some (.fl (ns.map .int)),some (.ref a),some (.int n),some (.int m),none,none,none,none,none] g=_
  unfold Qbf
  refine Qg [some (.fl (ns.map .int)),some (.ref a),some (.int n),some (.int m),some (.int q),none,none,none,none] g1 (QM (by rw [Qx (ds:=[.fl (ns.map .int),.ref a]) (g':=g) rfl]; exact e1)) (Qg _ g2 (QM e3) (Qg _ g3 (QM e4) ?_))
  refine Qg _ g4 ((QbR (J5 (n:=(q / 45 % 13).toNat) (Ql (x:=.int (q / 45)) (y:=.int 13) (g1:=g3) (g2:=g3) (Ql rfl rfl (divP (by decide) (by decide))) rfl (by rw [hw]; exact modP (by decide))) (QeM (by omega)))).trans e5) (ZS ?_)
  rw [← hst]
  exact Jv (Qj (g1:=g4) (Ql (x:=.int (q / 600)) (y:=.int n) (g1:=g4) (g2:=g4) (Ql rfl rfl (divP (by decide) (by decide))) rfl (modP hn')) (Qj (g1:=g4) rfl (Qj (g1:=g4) rfl rfl))) rfl
 ·refine⟨Nat.le_trans k1.len (Nat.le_trans k2.len (Nat.le_trans k3.len i2.len)),fun z o hz e=>?_⟩
  have hzl:=ZF e
  refine i2.at' _ _ (fun w=>?_) ((k2.trans k3).at' _ _ (by simp) (k1.at' _ _ hz e))
  rcases List.mem_cons.mp w with w | w
  ·exact hz (by rw [w]; simp)
  ·have:=List.mem_singleton.mp w; omega
end L3
end
section
namespace L3
open PySem
theorem Qkt (A B:List (Int×Int)):mkI A++mkI B=mkI (A++B):=by unfold mkI; rw [List.map_append]
theorem Qbp {A B:List (Int×Int)} {g:G} (hz:A.length+B.length≤1000):pAdd (.tup (mkI A)) (.tup (mkI B)) g=.ok (.tup (mkI (A++B))) g:=by
 have h1:(mkI A).length=A.length:=List.length_map _
 have h2:(mkI B).length=B.length:=List.length_map _
 unfold pAdd
 dsimp only
 rw [if_pos (Nat.le_of_lt (Qam (by omega))),Qkt]
theorem QiB {n m:Nat} {st:Nat} {mm pl:Int} {M:Mk'} {g:G} (hN:NearM pl m 12 M):∃ st' pl' Ms g',JX [.int mm,shI st pl (M.map fun p=>(p.1,(p.2:Int))),.int n,.int m] g=.ok (shI st' pl' Ms) g'∧¬ ShOk n m st' Ms∧Keeps [] g g':=by
 have hlen:(M.map fun p=>(p.1,(p.2:Int))).length≤12:=by rw [List.length_map]; exact hN.len
 have hpl:∀ q∈M.map (fun p=>(p.1,(p.2:Int))),q.1<pl+6:=fun q hq=>by
  obtain⟨p,hp,rfl⟩:=List.mem_map.mp hq
  have:=hN.pl p hp
  show p.1<pl+6; omega
 generalize (M.map fun p=>(p.1,(p.2:Int)))=Q at hlen hpl
 have k1:Keeps [] g (g++[.lst (mkI Q)]):=.push _
 have e1:mOp1 QhE (mVar 6) [some (.int mm),some (shI st pl Q),some (.int n),some (.int m),some (.int st),some (.int pl),some (.tup (mkI Q)),none,none] g=.ok (.ref g.length) (g++[.lst (mkI Q)]):=rfl
 generalize g++[GO.lst (mkI Q)]=g1 at k1 e1
 generalize g.length=z at e1
 have hh:∀ R,(mSeq (mIf (Qf (mOp2 pEq (mOp2 pMod (mVar 0) (mLit (.int 6))) (mLit (.int 0)))) (mRet (mOpA pTup (Qa (mOp2 pAdd (mVar 2) (mOp2 pMod (mOp2 Z1 (mVar 0) (mLit (.int 6))) (mLit (.int 3)))) (Qa (mVar 5) (Qa (mVar 6) mNil))))) QB)
 (mSeq (mIf (Qf (mOp2 pEq (mOp2 pMod (mVar 0) (mLit (.int 6))) (mLit (.int 1)))) (mRet (mOpA pTup (Qa (mOp1 pNeg (mLit (.int 1))) (Qa (mVar 5) (Qa (mVar 6) mNil))))) QB)
 (mSeq (mAsg (gSet 8) (mOp2 pAdd (mVar 5) (mLit (.int 20))))
 (mSeq (mIf (Qf (mOp2 pEq (mOp2 pMod (mVar 0) (mLit (.int 6))) (mLit (.int 2)))) (mRet (mOpA pTup (Qa (mVar 4) (Qa (mVar 5) (Qa (mOp2 pAdd (mVar 6) (mOpA pTup (Qa (mOpA pTup (Qa (mVar 8) (Qa (mLit (.int 0)) mNil))) mNil))) mNil))))) QB)
 (mSeq (mIf (Qf (mOp2 pEq (mOp2 pMod (mVar 0) (mLit (.int 6))) (mLit (.int 3)))) (mRet (mOpA pTup (Qa (mVar 4) (Qa (mVar 5) (Qa (mOp2 pAdd (mVar 6) (mOpA pTup (Qa (mOpA pTup (Qa (mVar 8) (Qa (mVar 3) mNil))) mNil))) mNil))))) QB)
 (mSeq (mIf (Qf (mOp2 pEq (mOp2 pMod (mVar 0) (mLit (.int 6))) (mLit (.int 4)))) (mRet (mOpA pTup (Qa (mVar 4) (Qa (mVar 5) (Qa (mOp2 pAdd (mVar 6) (mOpA pTup (Qa (mOpA pTup (Qa (mVar 8) (Qa (mLit (.int 1)) mNil))) (Qa (mOpA pTup (Qa (mVar 8) (Qa (mLit (.int 1)) mNil))) mNil)))) mNil))))) QB)
 (mRet (mOpA pTup (Qa (mVar 4) (Qa (mVar 5) (Qa (mOp2 pAdd (mOp2 pAdd (mOpA pTup (Qa (mOpA pTup (Qa (mOp2 pAdd (mVar 8) (mLit (.int 1))) (Qa (mLit (.int 1)) mNil))) mNil)) (mVar 6)) (mOpA pTup (Qa (mOpA pTup (Qa (mVar 8) (Qa (mLit (.int 1)) mNil))) mNil))) mNil))))))))))) [some (.int mm),some (shI st pl Q),some (.int n),some (.int m),some (.int st),some (.int pl),some (.tup (mkI Q)),some (.ref z),none] g1=.rt R g1->JX [.int mm,shI st pl Q,.int n,.int m] g=.ok R g1:=fun R hS=>by
  refine ZG rfl ?_
  show Qbh [some (.int mm),some (shI st pl Q),some (.int n),some (.int m),none,none,none,none,none] g=_
  unfold Qbh
  exact Qg [some (.int mm),some (shI st pl Q),some (.int n),some (.int m),some (.int st),some (.int pl),some (.tup (mkI Q)),none,none] g rfl (Qg _ g1 (QM e1) hS)
 have t:∀(x8:Option D) (c:Int),Qf (mOp2 pEq (mOp2 pMod (mVar 0) (mLit (.int 6))) (mLit (.int c))) [some (.int mm),some (shI st pl Q),some (.int n),some (.int m),some (.int st),some (.int pl),some (.tup (mkI Q)),some (.ref z),x8] g1=.ok (mm % 6 == c) g1:=fun x8 c=>QT (Ql (x:=.int (mm % 6)) (y:=.int c) (g1:=g1) (g2:=g1) (Ql rfl rfl (modP (by decide))) rfl rfl)
 have ty:∀(x8:Option D) (c:Int),mm % 6=c->Qf (mOp2 pEq (mOp2 pMod (mVar 0) (mLit (.int 6))) (mLit (.int c))) [some (.int mm),some (shI st pl Q),some (.int n),some (.int m),some (.int st),some (.int pl),some (.tup (mkI Q)),some (.ref z),x8] g1=.ok true g1:=fun x8 c h=>by rw [t,beq_iff_eq.mpr h]
 have tn:∀(x8:Option D) (c:Int),mm % 6≠c->Qf (mOp2 pEq (mOp2 pMod (mVar 0) (mLit (.int 6))) (mLit (.int c))) [some (.int mm),some (shI st pl Q),some (.int n),some (.int m),some (.int st),some (.int pl),some (.tup (mkI Q)),some (.ref z),x8] g1=.ok false g1:=fun x8 c h=>by rw [t,beq_eq_false_iff_ne.mpr h]
 have r0:=Int.emod_nonneg mm (show(6:Int)≠0 by decide)
 have r1:=Int.emod_lt_of_pos mm (show(0:Int)<6 by decide)
 by_cases c0:mm % 6=0
 ·have w0:=Int.emod_nonneg (mm / 6) (show(3:Int)≠0 by decide)
  refine⟨n+mm / 6 % 3,pl,Q,g1,hh _ ?_,fun h=>by have:=h.1.2; omega,k1⟩
  exact Jc (ift g1 (ty none 0 c0) (ZS (Jv (Qj (g1:=g1) (Ql (x:=.int n) (y:=.int (mm / 6 % 3)) (g1:=g1) (g2:=g1) rfl (Ql (x:=.int (mm / 6)) (y:=.int 3) (g1:=g1) (g2:=g1) (Ql rfl rfl (divP (by decide) (by decide))) rfl (modP (by decide))) rfl) (Qj (g1:=g1) rfl (Qj (g1:=g1) rfl rfl))) rfl)))
 have s0:∀(S:MS) R,S [some (.int mm),some (shI st pl Q),some (.int n),some (.int m),some (.int st),some (.int pl),some (.tup (mkI Q)),some (.ref z),none] g1=R->mSeq (mIf (Qf (mOp2 pEq (mOp2 pMod (mVar 0) (mLit (.int 6))) (mLit (.int 0)))) (mRet (mOpA pTup (Qa (mOp2 pAdd (mVar 2) (mOp2 pMod (mOp2 Z1 (mVar 0) (mLit (.int 6))) (mLit (.int 3)))) (Qa (mVar 5) (Qa (mVar 6) mNil))))) QB) S [some (.int mm),some (shI st pl Q),some (.int n),some (.int m),some (.int st),some (.int pl),some (.tup (mkI Q)),some (.ref z),none] g1=R:=fun S R h=>Qg _ g1 (iff' g1 (tn none 0 c0) rfl) h
 by_cases c1:mm % 6=1
 ·refine⟨-1,pl,Q,g1,hh _ (s0 _ _ ?_),fun h=>by have:=h.1.1; omega,k1⟩
  exact Jc (ift g1 (ty none 1 c1) rfl)
 have s1:∀(S:MS) R,S [some (.int mm),some (shI st pl Q),some (.int n),some (.int m),some (.int st),some (.int pl),some (.tup (mkI Q)),some (.ref z),some (.int (pl+20))] g1=R->mSeq (mIf (Qf (mOp2 pEq (mOp2 pMod (mVar 0) (mLit (.int 6))) (mLit (.int 0)))) (mRet (mOpA pTup (Qa (mOp2 pAdd (mVar 2) (mOp2 pMod (mOp2 Z1 (mVar 0) (mLit (.int 6))) (mLit (.int 3)))) (Qa (mVar 5) (Qa (mVar 6) mNil))))) QB) (mSeq (mIf (Qf (mOp2 pEq (mOp2 pMod (mVar 0) (mLit (.int 6))) (mLit (.int 1)))) (mRet (mOpA pTup (Qa (mOp1 pNeg (mLit (.int 1))) (Qa (mVar 5) (Qa (mVar 6) mNil))))) QB) (mSeq (mAsg (gSet 8) (mOp2 pAdd (mVar 5) (mLit (.int 20)))) S)) [some (.int mm),some (shI st pl Q),some (.int n),some (.int m),some (.int st),some (.int pl),some (.tup (mkI Q)),some (.ref z),none] g1=R:=fun S R h=>s0 _ _ (Qg _ g1 (iff' g1 (tn none 1 c1) rfl) (Qg _ g1 rfl h))
 have hq:(mkI Q).length=Q.length:=List.length_map _
 by_cases c2:mm % 6=2
 ·refine⟨st,pl,Q++[(pl+20,0)],g1,hh _ (s1 _ _ ?_),fun h=>(h.2.1 (pl+20,0) (by simp)).2 rfl,k1⟩
  exact Jc (ift g1 (ty _ 2 c2) (ZS (Jv (Qj (g1:=g1) rfl (Qj (g1:=g1) rfl (Qj (g1:=g1) (Ql (x:=.tup (mkI Q)) (y:=.tup (mkI [(pl+20,0)])) (g1:=g1) (g2:=g1) rfl rfl (Qbp (by simp; omega))) rfl))) rfl)))
 have s2:∀(S:MS) R,S [some (.int mm),some (shI st pl Q),some (.int n),some (.int m),some (.int st),some (.int pl),some (.tup (mkI Q)),some (.ref z),some (.int (pl+20))] g1=R->mSeq (mIf (Qf (mOp2 pEq (mOp2 pMod (mVar 0) (mLit (.int 6))) (mLit (.int 2)))) (mRet (mOpA pTup (Qa (mVar 4) (Qa (mVar 5) (Qa (mOp2 pAdd (mVar 6) (mOpA pTup (Qa (mOpA pTup (Qa (mVar 8) (Qa (mLit (.int 0)) mNil))) mNil))) mNil))))) QB) S [some (.int mm),some (shI st pl Q),some (.int n),some (.int m),some (.int st),some (.int pl),some (.tup (mkI Q)),some (.ref z),some (.int (pl+20))] g1=R:=fun S R h=>Qg _ g1 (iff' g1 (tn _ 2 c2) rfl) h
 by_cases c3:mm % 6=3
 ·refine⟨st,pl,Q++[(pl+20,(m:Int))],g1,hh _ (s1 _ _ (s2 _ _ ?_)),fun h=>by have:=(h.2.1 (pl+20,(m:Int)) (by simp)).1.2; exact absurd this (Int.lt_irrefl _),k1⟩
  exact Jc (ift g1 (ty _ 3 c3) (ZS (Jv (Qj (g1:=g1) rfl (Qj (g1:=g1) rfl (Qj (g1:=g1) (Ql (x:=.tup (mkI Q)) (y:=.tup (mkI [(pl+20,(m:Int))])) (g1:=g1) (g2:=g1) rfl rfl (Qbp (by simp; omega))) rfl))) rfl)))
 have s3:∀(S:MS) R,S [some (.int mm),some (shI st pl Q),some (.int n),some (.int m),some (.int st),some (.int pl),some (.tup (mkI Q)),some (.ref z),some (.int (pl+20))] g1=R->mSeq (mIf (Qf (mOp2 pEq (mOp2 pMod (mVar 0) (mLit (.int 6))) (mLit (.int 3)))) (mRet (mOpA pTup (Qa (mVar 4) (Qa (mVar 5) (Qa (mOp2 pAdd (mVar 6) (mOpA pTup (Qa (mOpA pTup (Qa (mVar 8) (Qa (mVar 3) mNil))) mNil))) mNil))))) QB) S [some (.int mm),some (shI st pl Q),some (.int n),some (.int m),some (.int st),some (.int pl),some (.tup (mkI Q)),some (.ref z),some (.int (pl+20))] g1=R:=fun S R h=>Qg _ g1 (iff' g1 (tn _ 3 c3) rfl) h
 by_cases c4:mm % 6=4
 ·refine⟨st,pl,Q++[(pl+20,1),(pl+20,1)],g1,hh _ (s1 _ _ (s2 _ _ (s3 _ _ ?_))),fun h=>?_,k1⟩
  ·exact Jc (ift g1 (ty _ 4 c4) (ZS (Jv (Qj (g1:=g1) rfl (Qj (g1:=g1) rfl (Qj (g1:=g1) (Ql (x:=.tup (mkI Q)) (y:=.tup (mkI [(pl+20,1),(pl+20,1)])) (g1:=g1) (g2:=g1) rfl rfl (Qbp (by simp; omega))) rfl))) rfl)))
  ·have:=h.2.2 Q.length (pl+20,1) (pl+20,1) (by rw [List.getElem?_append_right (Nat.le_refl _),Nat.sub_self]; rfl) (by rw [List.getElem?_append_right (by omega),Nat.add_sub_cancel_left]; rfl)
   exact absurd this (Int.lt_irrefl _)
 have s4:∀(S:MS) R,S [some (.int mm),some (shI st pl Q),some (.int n),some (.int m),some (.int st),some (.int pl),some (.tup (mkI Q)),some (.ref z),some (.int (pl+20))] g1=R->mSeq (mIf (Qf (mOp2 pEq (mOp2 pMod (mVar 0) (mLit (.int 6))) (mLit (.int 4)))) (mRet (mOpA pTup (Qa (mVar 4) (Qa (mVar 5) (Qa (mOp2 pAdd (mVar 6) (mOpA pTup (Qa (mOpA pTup (Qa (mVar 8) (Qa (mLit (.int 1)) mNil))) (Qa (mOpA pTup (Qa (mVar 8) (Qa (mLit (.int 1)) mNil))) mNil)))) mNil))))) QB) S [some (.int mm),some (shI st pl Q),some (.int n),some (.int m),some (.int st),some (.int pl),some (.tup (mkI Q)),some (.ref z),some (.int (pl+20))] g1=R:=fun S R h=>Qg _ g1 (iff' g1 (tn _ 4 c4) rfl) h
 refine⟨st,pl,[(pl+20+1,1)]++Q++[(pl+20,1)],g1,hh _ (s1 _ _ (s2 _ _ (s3 _ _ (s4 _ _ ?_)))),fun h=>?_,k1⟩
 ·exact ZS (Jv (Qj (g1:=g1) rfl (Qj (g1:=g1) rfl (Qj (g1:=g1) (Ql (x:=.tup (mkI ([(pl+20+1,1)]++Q))) (y:=.tup (mkI [(pl+20,1)])) (g1:=g1) (g2:=g1) (Ql (x:=.tup (mkI [(pl+20+1,1)])) (y:=.tup (mkI Q)) (g1:=g1) (g2:=g1) rfl rfl (Qbp (by simp; omega))) rfl (Qbp (by simp; omega))) rfl))) rfl)
 ·cases Q with
  | nil =>
   have:=h.2.2 0 (pl+20+1,1) (pl+20,1) rfl rfl
   exact absurd this (by show ¬ pl+20+1<pl+20; omega)
  | cons q r =>
   have:=h.2.2 0 (pl+20+1,1) q rfl rfl
   have h2:=hpl q (List.mem_cons_self ..)
   exact absurd this (by show ¬ pl+20+1<q.1; omega)
end L3
end
section
namespace L3
open PySem
section
variable {rows:List (List D)} {n m:Nat}
theorem Qhg:∀(k:Nat) (c:Cf),(runC rows k c).2<k->ZM rows (runC rows k c).1=none
 | 0,_,h=>by omega
 | k+1,c,h=>by
  rcases Qan (rows:=rows) k c with⟨_,⟨z,e⟩ | ⟨d,z,e⟩⟩ | ⟨z,e⟩
  ·rw [e]; exact z
  ·rw [e] at h; have:k+1<k+1:=h; omega
  ·rw [e]; exact Qhg k c z
theorem Qhh (k:Nat) (c:Cf):runC rows (runC rows k c).2 c=runC rows k c:=by
 have:=Qd5 (rows:=rows) k c
 by_cases h:(runC rows k c).2=k
 ·rw [h]
 ·exact Qbn k _ c (Qhg k c (by omega)) (Nat.le_refl _)
theorem Qhi {N t:Nat} {g:G} {σ:S3} {o:ME} (hT:tabOf N g t rows) (T:Tb rows n m) (ho:o σ g=.ok (.ref t) g):mOp1 pLen o σ g=.ok (.int n) g∧mOp1 pLen (mOp2 pIx o (mLit (.int 0))) σ g=.ok (.int m) g:=by
 obtain⟨h0,ds,h1,h2,h3⟩:=hT
 have hn:0<rows.length:=by rw [T.len]; exact T.n0
 have hd:0<ds.length:=by omega
 obtain⟨p,e,hp,hne,h4⟩:=h3 0 ds[0] rows[0] (by simp [hd]) (by simp [hn])
 refine⟨Zu ho (by unfold pLen; dsimp only; rw [h1]; dsimp only; rw [h2,T.len]),Zu (x:=.ref p) (g1:=g) (Ql (x:=.ref t) (y:=.int ((0:Nat):Int)) (g1:=g) (g2:=g) ho rfl (Qda h1 (by rw [List.getElem?_eq_getElem hd,e]))) ?_⟩
 unfold pLen; dsimp only; rw [h4]; dsimp only; rw [T.row _ (List.getElem_mem hn)]
theorem QiC {st:Nat} {pl:Int} {M:Mk'} (hN:NearM pl m 12 M) (hst:st<n):Fine n m (cfM st pl M) :=
 ⟨⟨hst,fun p hp=>hN.sg p (List.mem_filter.mp hp).1,fun p hp=>hN.sg p (List.mem_reverse.mp (List.mem_filter.mp hp).1)⟩,Qiu hN.up hN.nz⟩
end
theorem Qku (ns:List Int) (a:Nat) (k:Int) (x2 x3 x4 x5 x6 x7 x8 x9 x10 x11 x12 x13:Option D) (g:G) (ga:g[a]?=some (.lst [.int k])) (hk:0≤k) (hk2:k<700000000) :
  ∃ y3 y4 y5 y6 y7 y8 y9 y10 y11 y12 y13 g' k',QaN [some (.fl (ns.map .int)),some (.ref a),x2,x3,x4,x5,x6,x7,x8,x9,x10,x11,x12,x13] g=.nx [some (.fl (ns.map .int)),some (.ref a),x2,y3,y4,y5,y6,y7,y8,y9,y10,y11,y12,y13] g'∧g'[a]?=some (.lst [.int k'])∧0≤k'∧k'≤k+200:=by
 have hal:=ZF ga
 obtain⟨q,q1,q2,e1⟩:=Qbi ns a k g ga hk (by omega)
 have ga1:(g.set a (.lst [.int (k+1)]))[a]?=some (.lst [.int (k+1)]):=Q4 ga
 generalize g.set a (.lst [.int (k+1)])=g1 at e1 ga1
 obtain⟨n,en,n0,n12⟩:∃ n:Nat,(1+q % 5:Int)=n∧0<n∧n≤12:=⟨(1+q % 5).toNat,by omega,by omega,by omega⟩
 obtain⟨m,em,m0,m8⟩:∃ m:Nat,(2+q / 5 % 3:Int)=m∧0<m∧m≤4:=⟨(2+q / 5 % 3).toNat,by omega,by omega,by omega⟩
 obtain⟨rows,g2,e2,k2,ga2,hT,h1,h2,h3⟩:=Qid ns a (k+1) n m g1 n0 m0 n12 (by omega) ga1 (by omega) (by omega)
 have hal1:=ZF ga1
 have T:Tb rows n m:=⟨n0,m0,n12,by omega,h1,h2,h3⟩
 obtain⟨g3,k3,e3,hM'⟩:=Qke (.ref g1.length) rows g2 hT.rows (fun r hr=>Nat.le_of_lt (Qam (by rw [h2 r hr]; omega))) (Nat.le_of_lt (Qam (by rw [h1]; omega))) (fun r hr d hd=>(h3 r hr d hd).thing) (Qa (mVar 4) mNil) [some (.fl (ns.map .int)),some (.ref a),x2,some (.int q),some (.ref g1.length),x5,x6,x7,x8,x9,x10,x11,x12,x13] g2 rfl
 have hgood:=entOk.good n0 m0 h1 h2 h3
 rw [if_pos hgood] at e3
 have hM:=hM' hgood
 have hT3:=hT.mono k3 (by simp)
 have ga3:=k3.at' _ _ (by simp) ga2
 have hnm:n*m≤12*4:=Nat.mul_le_mul n12 m8
 have hb1:(0:Int)≤(n:Int)*m:=by exact_mod_cast Nat.zero_le (n*m)
 have hb2:(n:Int)*m≤48:=by exact_mod_cast hnm
 have hMa:g2.length≠a:=by have:=ZF ga2; omega
 generalize hmc:g2.length=Mc at e3 hM hMa
 have hta:∀ x∈[a],x<g1.length:=fun x hx=>by rw [List.mem_singleton.mp hx]; exact hal1
 generalize g1.length=t at hT3 e2 e3 hta
 generalize hkd:k+1+(n:Int)*m=kk at ga3
 have hkk:k+1≤kk∧kk≤k+49:=⟨by omega,by omega⟩
 -- the beginning
 obtain⟨l1,l2⟩:=Qhi hT3 T (o:=mVar 4) (σ:=[some (.fl (ns.map .int)),some (.ref a),x2,some (.int q),some (.ref t),some (.ref Mc),x6,x7,x8,x9,x10,x11,x12,x13]) rfl
 obtain⟨st,pl,M,d,ks,g4,k4,e4,hst,kp4,ga4,b4,b4',hd4,hD4,hN,hks,hdl⟩:=QiA ns n0 m0 ga3 (by omega) (by omega)
 have hT4:=hT3.mono kp4 hta
 have hM4:=kp4.at' _ _ (fun z=>hMa (List.mem_singleton.mp z)) hM
 have hF:=QiC (n:=n) hN hst
 have hmk:marks (cfM st pl M)=M:=Qbo hN.up
 have hcl:(cfM st pl M).L.length+(cfM st pl M).R.length≤12:=by rw [← YM,hmk]; exact hN.len
 have hsh:ShR g4 (cfM st pl M) (.tup [.int st,.int pl,.ref d]) 12:=⟨d,ks,rfl,hd4,by rw [hmk]; exact hD4,hks⟩
 have hwr:QK (cfM st pl M)=shI st pl (M.map fun p=>(p.1,(p.2:Int))):=by rw [Qhe,hmk]; rfl
 generalize cfM st pl M=c at hF hcl hsh hwr hmk
 obtain⟨A,hA,hA2⟩:∃ A:Nat,q / 15 % 41=A∧A≤40:=⟨(q / 15 % 41).toNat,by omega,by omega⟩
 obtain⟨B,hB,hB2⟩:∃ B:Nat,q / 615 % 41=B∧B≤40:=⟨(q / 615 % 41).toNat,by omega,by omega⟩
 -- the law's own run
 obtain⟨r,g5,ds,e5,k5,hr5,hlen5,hall⟩:=Qkn (A+B) (by omega) T hF hT4.b hsh
 have hlast:=Qhh (rows:=rows) (A+B) c
 have hle:=Qd5 (rows:=rows) (A+B) c
 have hadd:=QeX (rows:=rows) A B c
 have hlens:=fun j=>Qd7 T j c hF.ok
 have hfin:=fun j=>Qcx T j c hF
 obtain⟨y,hy,d',ks',hy1,hd',hD',hks'⟩:=hall _ (Nat.le_refl _)
 rw [hlast] at hy1 hD'
 obtain⟨g6,e6,k6⟩:=QeU hd' hD' (hfin (A+B)).good (by rw [YM]; have:=hlens (A+B); omega)
 have hsm:∀ j,j≤100->Sm 5 (QK (runC rows j c).1):=fun j hj=>Qhd 1 _ (by rw [YM]; have:=hlens j; omega)
 have smD:Sm 6 (.tup [QK (runC rows (A+B) c).1,.int (runC rows (A+B) c).2]):=Qdj 5 _ (show 2≤1000 by decide) fun d hd=>by
  rcases List.mem_cons.mp hd with rfl | hd
  ·exact hsm _ (by omega)
  ·rw [List.mem_singleton.mp hd]; exact QbW _ _
 have smZ:Sm 6 (.tup [QK (runC rows A c0).1,.int (runC rows A c0).2]):=Qdj 5 _ (show 2≤1000 by decide) fun d hd=>by
  rcases List.mem_cons.mp hd with rfl | hd
  ·exact Qhd 1 _ (by rw [YM]; have:=Qd7 T A c0 (ok0 T); have:c0.L.length=0:=rfl; have:c0.R.length=0:=rfl; omega)
  ·rw [List.mem_singleton.mp hd]; exact QbW _ _
 obtain⟨d0,ks0,hy0,hd0,hD0,hks0⟩:=hsh
 have hd6:=(k5.trans k6).at' _ _ (by simp) hd0
 obtain⟨g7,e7,k7⟩:=QeU hd6 hD0 hF.good (by rw [YM]; omega)
 have hM7:=(k5.trans (k6.trans k7)).at' _ _ (by simp) hM4
 obtain⟨g8,e8,k8⟩:=Zt (k:=A+B) T hF (by omega) hM7
 obtain⟨g9,e9,k9⟩:=smD g8
 have hM9:=(k8.trans k9).at' _ _ (by simp) hM7
 obtain⟨g10,e10,k10⟩:=Zt (k:=A) T hF (by omega) hM9
 have hM10:=k10.at' _ _ (by simp) hM9
 obtain⟨g11,e11,k11⟩:=Zt (k:=B) T (hfin A) (by have:=hlens A; omega) hM10
 obtain⟨g12,e12,k12⟩:=smD g11
 have hM12:=(k11.trans k12).at' _ _ (by simp) hM10
 obtain⟨g13,e13,k13⟩:=Zt (c:=c0) (k:=A) T (Qmc T) (by show 0+0+A<700; omega) hM12
 obtain⟨g14,e14,k14⟩:=Qiy (k:=A) T (by omega) (k13.at' _ _ (by simp) hM12)
 obtain⟨g15,e15,k15⟩:=smZ g14
 have kA:=k5.trans (k6.trans (k7.trans (k8.trans (k9.trans (k10.trans (k11.trans (k12.trans (k13.trans (k14.trans k15)))))))))
 have ga15:=kA.at' _ _ (by simp) ga4
 have hM15:=kA.at' _ _ (by simp) hM4
 have hT15:=hT4.mono kA (by simp)
 obtain⟨w,w0,w1,e16⟩:=Qbi ns a k4 g15 ga15 (by omega) (by omega)
 have k16:Keeps [a] g15 (g15.set a (.lst [.int (k4+1)])):=.set _ _
 have ga16:(g15.set a (.lst [.int (k4+1)]))[a]?=some (.lst [.int (k4+1)]):=Q4 ga15
 generalize g15.set a (.lst [.int (k4+1)])=g16 at e16 k16 ga16
 have hM16:=k16.at' _ _ (fun z=>hMa (List.mem_singleton.mp z)) hM15
 have hT16:=hT15.mono k16 hta
 obtain⟨st',pl',Ms,g17,e17,hbad,k17⟩:=QiB (n:=n) (st:=st) (mm:=w) (g:=g16) hN
 rw [← hwr] at e17
 obtain⟨g18,e18,k18⟩:=QfB (pl:=pl') T (k17.at' _ _ (by simp) hM16) hbad
 have hM18:=(k17.trans k18).at' _ _ (by simp) hM16
 have ga18:=(k17.trans k18).at' _ _ (by simp) ga16
 obtain⟨g19,e19,k19⟩:=Zt (k:=A+B) T hF (by omega) hM18
 obtain⟨g20,e20,k20⟩:=smD g19
 have ga20:=(k19.trans k20).at' _ _ (by simp) ga18
 generalize hc2:runC rows (A+B) c=cK at *
 obtain⟨cE,K⟩:=cK
 dsimp only at *
 have hadd1:cE=(runC rows B (runC rows A c).1).1:=congrArg Prod.fst hadd
 have hadd2:K=(runC rows A c).2+(runC rows B (runC rows A c).1).2:=congrArg Prod.snd hadd
 refine⟨some (.int q),some (.ref t),some (.ref Mc),some (.tup [.int st,.int pl,.ref d]),some (.int A),some (.int B),some (.ref r),some (.tup [QK cE,.int K]),some (QK c),some (.tup [QK (runC rows A c).1,.int (runC rows A c).2]),some (.tup [QK (runC rows B (runC rows A c).1).1,.int (runC rows B (runC rows A c).1).2]),g20,k4+1,?_,ga20,by omega,by omega⟩
 unfold QaN
 refine Qg [some (.fl (ns.map .int)),some (.ref a),x2,some (.int q),x4,x5,x6,x7,x8,x9,x10,x11,x12,x13] g1 (QM (by rw [Qx (ds:=[.fl (ns.map .int),.ref a]) (g':=g) rfl]; exact e1)) ?_
 refine Qg [some (.fl (ns.map .int)),some (.ref a),x2,some (.int q),some (.ref t),x5,x6,x7,x8,x9,x10,x11,x12,x13] g2 (QM (by
  rw [Qx (ds:=[.fl (ns.map .int),.ref a,.int n,.int m]) (g':=g1) (Qj (g1:=g1) rfl (Qj (g1:=g1) rfl (Qj (g1:=g1) (Ql (x:=.int 1) (y:=.int (q % 5)) (g1:=g1) (g2:=g1) rfl (Ql rfl rfl (modP (by decide))) (by rw [← en]; rfl)) (Qj (g1:=g1) (Ql (x:=.int 2) (y:=.int (q / 5 % 3)) (g1:=g1) (g2:=g1) rfl (Ql (x:=.int (q / 5)) (g1:=g1) (Ql rfl rfl (divP (by decide) (by decide))) rfl (modP (by decide))) (by rw [← em]; rfl)) rfl))))]
  exact e2)) ?_
 refine Qg [some (.fl (ns.map .int)),some (.ref a),x2,some (.int q),some (.ref t),some (.ref Mc),x6,x7,x8,x9,x10,x11,x12,x13] g3 (QM e3) ?_
 refine Qg [some (.fl (ns.map .int)),some (.ref a),x2,some (.int q),some (.ref t),some (.ref Mc),some (.tup [.int st,.int pl,.ref d]),x7,x8,x9,x10,x11,x12,x13] g4 (QM (by rw [Qx (ds:=[.fl (ns.map .int),.ref a,.int n,.int m]) (g':=g3) (Qj (g1:=g3) rfl (Qj (g1:=g3) rfl (Qj l1 (Qj l2 rfl))))]; exact e4)) ?_
 refine Qg [some (.fl (ns.map .int)),some (.ref a),x2,some (.int q),some (.ref t),some (.ref Mc),some (.tup [.int st,.int pl,.ref d]),some (.int A),x8,x9,x10,x11,x12,x13] g4 (QM (by rw [← hA]; exact Ql (x:=.int (q / 15)) (y:=.int 41) (g1:=g4) (g2:=g4) (Ql rfl rfl (divP (by decide) (by decide))) rfl (modP (by decide)))) ?_
 refine Qg [some (.fl (ns.map .int)),some (.ref a),x2,some (.int q),some (.ref t),some (.ref Mc),some (.tup [.int st,.int pl,.ref d]),some (.int A),some (.int B),x9,x10,x11,x12,x13] g4 (QM (by rw [← hB]; exact Ql (x:=.int (q / 615)) (y:=.int 41) (g1:=g4) (g2:=g4) (Ql rfl rfl (divP (by decide) (by decide))) rfl (modP (by decide)))) ?_
 refine Qg [some (.fl (ns.map .int)),some (.ref a),x2,some (.int q),some (.ref t),some (.ref Mc),some (.tup [.int st,.int pl,.ref d]),some (.int A),some (.int B),some (.ref r),x10,x11,x12,x13] g5 (QM (by rw [Qx (ds:=[.ref t,.tup [.int st,.int pl,.ref d],.int ((A+B:Nat):Int)]) (g':=g4) rfl]; exact e5)) ?_
 have eix:mOp2 pSub (mOp1 pLen (mVar 9)) (mLit (.int 1)) [some (.fl (ns.map .int)),some (.ref a),x2,some (.int q),some (.ref t),some (.ref Mc),some (.tup [.int st,.int pl,.ref d]),some (.int A),some (.int B),some (.ref r),x10,x11,x12,x13] g5=.ok (.int K) g5:=by
  refine Ql (x:=.int ((K+1:Nat):Int)) (y:=.int 1) (g1:=g5) (g2:=g5) (Zu (x:=.ref r) (g1:=g5) rfl (by unfold pLen; dsimp only; rw [hr5]; dsimp only; rw [hlen5])) rfl ?_
  show Res.ok (D.int (((K+1:Nat):Int) - 1)) g5=_
  rw [show((K+1:Nat):Int) - 1=K by omega]
 have eix6:mOp2 pSub (mOp1 pLen (mVar 9)) (mLit (.int 1)) [some (.fl (ns.map .int)),some (.ref a),x2,some (.int q),some (.ref t),some (.ref Mc),some (.tup [.int st,.int pl,.ref d]),some (.int A),some (.int B),some (.ref r),x10,x11,x12,x13] g6=.ok (.int K) g6:=by
  refine Ql (x:=.int ((K+1:Nat):Int)) (y:=.int 1) (g1:=g6) (g2:=g6) (Zu (x:=.ref r) (g1:=g6) rfl (by unfold pLen; dsimp only; rw [k6.at' _ _ (by simp) hr5]; dsimp only; rw [hlen5])) rfl ?_
  show Res.ok (D.int (((K+1:Nat):Int) - 1)) g6=_
  rw [show((K+1:Nat):Int) - 1=K by omega]
 refine Qg [some (.fl (ns.map .int)),some (.ref a),x2,some (.int q),some (.ref t),some (.ref Mc),some (.tup [.int st,.int pl,.ref d]),some (.int A),some (.int B),some (.ref r),some (.tup [QK cE,.int K]),x11,x12,x13] g6 (QM (Jv (Qj (g1:=g6) (by
  rw [Qx (ds:=[QJ cE d']) (g':=g5) (Qj (g1:=g5) (Ql (x:=.ref r) (y:=.int K) (g1:=g5) (g2:=g5) rfl eix (by rw [← hy1]; exact Qda hr5 hy)) rfl)]
  exact e6) (Qj eix6 rfl)) rfl)) ?_
 refine Qg [some (.fl (ns.map .int)),some (.ref a),x2,some (.int q),some (.ref t),some (.ref Mc),some (.tup [.int st,.int pl,.ref d]),some (.int A),some (.int B),some (.ref r),some (.tup [QK cE,.int K]),some (QK c),x12,x13] g7 (QM (by rw [Qx (ds:=[.tup [.int st,.int pl,.ref d]]) (g':=g6) rfl,hy0]; exact e7)) ?_
 have due:∀(g g':G) (h:Qz [.ref Mc,QK c,.int ((A+B:Nat):Int)] g=.ok (.tup [QK cE,.int K]) g') (x12 x13:Option D),Qa (QA Qz (Qa (mVar 5) (Qa (mVar 11) (Qa (mOp2 pAdd (mVar 7) (mVar 8)) mNil)))) (Qa (mVar 10) mNil) [some (.fl (ns.map .int)),some (.ref a),x2,some (.int q),some (.ref t),some (.ref Mc),some (.tup [.int st,.int pl,.ref d]),some (.int A),some (.int B),some (.ref r),some (.tup [QK cE,.int K]),some (QK c),x12,x13] g=.ok [.tup [QK cE,.int K],.tup [QK cE,.int K]] g':=fun g g' h x12 x13=>Qj (by rw [Qx (ds:=[.ref Mc,QK c,.int ((A+B:Nat):Int)]) (g':=g) rfl]; exact h) rfl
 refine Qg _ g9 (iff' g9 (QbT (QT (by rw [Qx (due g7 g8 e8 _ _)]; exact e9))) rfl) ?_
 refine Qg [some (.fl (ns.map .int)),some (.ref a),x2,some (.int q),some (.ref t),some (.ref Mc),some (.tup [.int st,.int pl,.ref d]),some (.int A),some (.int B),some (.ref r),some (.tup [QK cE,.int K]),some (QK c),some (.tup [QK (runC rows A c).1,.int (runC rows A c).2]),x13] g10 (QM (by rw [Qx (ds:=[.ref Mc,QK c,.int A]) (g':=g9) rfl]; exact e10)) ?_
 refine Qg [some (.fl (ns.map .int)),some (.ref a),x2,some (.int q),some (.ref t),some (.ref Mc),some (.tup [.int st,.int pl,.ref d]),some (.int A),some (.int B),some (.ref r),some (.tup [QK cE,.int K]),some (QK c),some (.tup [QK (runC rows A c).1,.int (runC rows A c).2]),some (.tup [QK (runC rows B (runC rows A c).1).1,.int (runC rows B (runC rows A c).1).2])] g11 (QM (by rw [Qx (ds:=[.ref Mc,QK (runC rows A c).1,.int B]) (g':=g10) rfl]; exact e11)) ?_
 refine Qg _ g12 (iff' g12 (QbT (QT (by
  rw [Qx (ds:=[.tup [QK (runC rows B (runC rows A c).1).1,.int (((runC rows A c).2:Int)+((runC rows B (runC rows A c).1).2:Int))],.tup [QK cE,.int K]]) (g':=g11) rfl,← hadd1,show((runC rows A c).2:Int)+((runC rows B (runC rows A c).1).2:Int)=(K:Int) by omega]
  exact e12))) rfl) ?_
 refine Qg _ g15 (iff' g15 (QbT (QT (by
  rw [Qx (Qj (x:=.tup [QK (runC rows A c0).1,.int (runC rows A c0).2]) (g1:=g13) (by rw [Qx (ds:=[.ref Mc,QK c0,.int A]) (g':=g12) rfl]; exact e13) (Qj (x:=.tup [QK (runC rows A c0).1,.int (runC rows A c0).2]) (g1:=g14) (by rw [Qx (ds:=[.ref Mc,.int A]) (g':=g13) rfl]; exact e14) rfl))]
  exact e15))) rfl) ?_
 obtain⟨v1,v2⟩:=Qhi hT16 T (o:=mVar 4) (σ:=[some (.fl (ns.map .int)),some (.ref a),x2,some (.int q),some (.ref t),some (.ref Mc),some (.tup [.int st,.int pl,.ref d]),some (.int A),some (.int B),some (.ref r),some (.tup [QK cE,.int K]),some (QK c),some (.tup [QK (runC rows A c).1,.int (runC rows A c).2]),some (.tup [QK (runC rows B (runC rows A c).1).1,.int (runC rows B (runC rows A c).1).2])]) rfl
 refine Qg _ g18 (iff' g18 (QbT (QT (by
  rw [Qx (ds:=[.ref Mc,shI st' pl' Ms]) (g':=g17) (Qj (g1:=g15) rfl (Qj (g1:=g17) (by
   rw [Qx (ds:=[.int w,QK c,.int n,.int m]) (g':=g16) (Qj (g1:=g16) (by rw [Qx (ds:=[.fl (ns.map .int),.ref a]) (g':=g15) rfl]; exact e16) (Qj (g1:=g16) rfl (Qj v1 (Qj v2 rfl))))]
   exact e17) rfl))]
  exact e18))) rfl) ?_
 exact iff' g20 (QbT (QT (by rw [Qx (due g18 g19 e19 _ _)]; exact e20))) rfl
theorem law_true (ns:List Int) (hl:ns.length≤63):∃ g',Qh8 [.fl (ns.map D.int)] []=.ok (.bl true) g':=by
 have es:Qa0 (mVar 0) Jy (QcR (mLit (.int 60))) [some (.fl (ns.map D.int)),some (.ref 0),none,none,none,none,none,none,none,none,none,none,none,none] [.lst [.int 0]]=.ok (.ref 1) [.lst [.int 0],.lst (cutD (ns.map D.int) none (some 60))]:=rfl
 have hcut:(cutD (ns.map D.int) none (some 60)).length≤60:=by
  unfold cutD
  rw [List.length_take]
  show min (min (60:Int).toNat (ns.map D.int).length - 0) _≤60
  have:(60:Int).toNat=60:=rfl
  omega
 generalize cutD (ns.map D.int) none (some 60)=cs at es hcut
 obtain⟨c,hc,hc3⟩:∃ c:Nat,(1+((cs.length:Nat):Int) / 30)=c∧c≤3:=⟨(1+((cs.length:Nat):Int) / 30).toNat,by omega,by omega⟩
 have hit:Zm (mOp2 pAdd (mLit (.int 1)) (mOp2 Z1 (mOp1 pLen (Qa0 (mVar 0) Jy (QcR (mLit (.int 60))))) (mLit (.int 30)))) [some (.fl (ns.map D.int)),some (.ref 0),none,none,none,none,none,none,none,none,none,none,none,none] [.lst [.int 0]]=.ok (ZZ 0 c) [.lst [.int 0],.lst cs] :=
  J5 (Ql (x:=.int 1) (y:=.int (((cs.length:Nat):Int) / 30)) (g1:=[.lst [.int 0]]) (g2:=[.lst [.int 0],.lst cs]) rfl (Ql (x:=.int (cs.length:Nat)) (Zu es rfl) rfl (divP (by decide) (by decide))) (by rw [← hc]; rfl)) (QeM (by omega))
 obtain⟨σ',g',e,_⟩:=JZ (t:=gSet 2) (body:=QaN) (lo:=0) (n:=c) (σ:=[some (.fl (ns.map D.int)),some (.ref 0),none,none,none,none,none,none,none,none,none,none,none,none]) (g:=[.lst [.int 0],.lst cs])
  (fun i σ g1=>(∃ y2 y3 y4 y5 y6 y7 y8 y9 y10 y11 y12 y13,σ=[some (.fl (ns.map D.int)),some (.ref 0),y2,y3,y4,y5,y6,y7,y8,y9,y10,y11,y12,y13])∧∃ k:Int,g1[0]?=some (.lst [.int k])∧0≤k∧k≤200*i) ⟨⟨none,none,none,none,none,none,none,none,none,none,none,none,rfl⟩,0,rfl,by omega,by omega⟩ (fun i σ g1 hi hQ=>by
   obtain⟨⟨y2,y3,y4,y5,y6,y7,y8,y9,y10,y11,y12,y13,r1⟩,k,r3,r4,r5⟩:=hQ
   subst r1
   obtain⟨z3,z4,z5,z6,z7,z8,z9,z10,z11,z12,z13,g2,k',e,q1,q2,q3⟩:=Qku ns 0 k (some (.int (0+i))) y3 y4 y5 y6 y7 y8 y9 y10 y11 y12 y13 g1 r3 r4 (by omega)
   exact⟨_,_,g2,rfl,e,⟨_,_,_,_,_,_,_,_,_,_,_,_,rfl⟩,k',q1,q2,by omega⟩)
 refine⟨g',ZG rfl ?_⟩
 show Qka [some (.fl (ns.map D.int)),none,none,none,none,none,none,none,none,none,none,none,none,none] []=_
 unfold Qka
 refine Qg [some (.fl (ns.map D.int)),some (.ref 0),none,none,none,none,none,none,none,none,none,none,none,none] [.lst [.int 0]] rfl ?_
 exact Qg σ' g' ((QbR hit).trans e) (ZS rfl)
end L3
end
section
namespace V
open PySem PySem.Spec PyProof.Rows L2 L3
noncomputable def top (i:Nat):Stmt:=PySem.Challenge.pw_tapeproof_k07_from_any_shot.main.body.getD i (.Pass ⟨0,0,0,0⟩)
noncomputable abbrev Yd:Stmt:=top 13
noncomputable abbrev QfD:List Str:=["value"]
theorem Qd8:FnScope QfD ["value"] (Qd Yd):=⟨rfl,rfl,rfl,by decide +kernel,rfl,by decide +kernel,by decide +kernel⟩
noncomputable abbrev Ye:Stmt:=top 14
noncomputable abbrev QfE:List Str:=["value", "many"]
theorem Qd9:FnScope QfE ["value", "many"] (Qd Ye):=⟨rfl,rfl,rfl,by decide +kernel,rfl,by decide +kernel,by decide +kernel⟩
noncomputable abbrev Yf:Stmt:=top 19
noncomputable abbrev QfF:List Str:=["thing", "states", "signs"]
theorem Qea:FnScope QfF ["thing", "states", "signs"] (Qd Yf):=⟨rfl,rfl,rfl,by decide +kernel,rfl,by decide +kernel,by decide +kernel⟩
noncomputable abbrev Zq:Stmt:=top 20
noncomputable abbrev Qay:List Str:=["rows", "states", "signs", "row"]
theorem sc_check_rows:FnScope Qay ["rows"] (Qd Zq):=⟨rfl,rfl,rfl,by decide +kernel,rfl,by decide +kernel,by decide +kernel⟩
noncomputable abbrev QZ:Stmt:=YB (top 21) 0
noncomputable abbrev Jw:List Str:=["self", "table", "rows"]
theorem sc_Machine_init:FnScope Jw ["self", "table"] (Qd QZ):=⟨rfl,rfl,rfl,by decide +kernel,rfl,by decide +kernel,by decide +kernel⟩
noncomputable abbrev ZW:Stmt:=top 22
noncomputable abbrev Qeb:List Str:=["machine"]
theorem Qdk:FnScope Qeb ["machine"] (Qd ZW):=⟨rfl,rfl,rfl,by decide +kernel,rfl,by decide +kernel,by decide +kernel⟩
noncomputable abbrev Yg:Stmt:=top 23
noncomputable abbrev QfG:List Str:=["machine"]
theorem Qec:FnScope QfG ["machine"] (Qd Yg):=⟨rfl,rfl,rfl,by decide +kernel,rfl,by decide +kernel,by decide +kernel⟩
noncomputable abbrev Zr:Stmt:=YB (top 26) 0
noncomputable abbrev JP:List Str:=["self", "machine", "shot"]
theorem Qdl:FnScope JP ["self", "machine", "shot"] (Qd Zr):=⟨rfl,rfl,rfl,by decide +kernel,rfl,by decide +kernel,by decide +kernel⟩
noncomputable abbrev QP:Stmt:=YB (top 26) 1
noncomputable abbrev Qap:List Str:=["self"]
theorem Qab:FnScope Qap ["self"] (Qd QP):=⟨rfl,rfl,rfl,by decide +kernel,rfl,by decide +kernel,by decide +kernel⟩
noncomputable abbrev ZH:Stmt:=YB (top 26) 2
noncomputable abbrev Qdm:List Str:=["self", "sign"]
theorem sc_Walk_entry:FnScope Qdm ["self"] (Qd ZH):=⟨rfl,rfl,rfl,by decide +kernel,rfl,by decide +kernel,by decide +kernel⟩
noncomputable abbrev ZI:Stmt:=YB (top 26) 3
noncomputable abbrev Qdn:List Str:=["self", "sign"]
theorem Qcz:FnScope Qdn ["self", "sign"] (Qd ZI):=⟨rfl,rfl,rfl,by decide +kernel,rfl,by decide +kernel,by decide +kernel⟩
noncomputable abbrev Q6:Stmt:=YB (top 26) 4
noncomputable abbrev Qbq:List Str:=["self"]
theorem QaD:FnScope Qbq ["self"] (Qd Q6):=⟨rfl,rfl,rfl,by decide +kernel,rfl,by decide +kernel,by decide +kernel⟩
noncomputable abbrev Ze:Stmt:=YB (top 26) 5
noncomputable abbrev QbB:List Str:=["self"]
theorem Qbr:FnScope QbB ["self"] (Qd Ze):=⟨rfl,rfl,rfl,by decide +kernel,rfl,by decide +kernel,by decide +kernel⟩
noncomputable abbrev Zf:Stmt:=YB (top 26) 6
noncomputable abbrev QbC:List Str:=["self", "entry"]
theorem sc_Walk_stepped:FnScope QbC ["self"] (Qd Zf):=⟨rfl,rfl,rfl,by decide +kernel,rfl,by decide +kernel,by decide +kernel⟩
noncomputable abbrev Yh:Stmt:=YB (top 26) 7
noncomputable abbrev QfH:List Str:=["self", "steps", "done"]
theorem sc_Walk_run:FnScope QfH ["self", "steps"] (Qd Yh):=⟨rfl,rfl,rfl,by decide +kernel,rfl,by decide +kernel,by decide +kernel⟩
noncomputable abbrev ZX:Stmt:=YB (top 26) 8
noncomputable abbrev Qed:List Str:=["self"]
theorem Qdo:FnScope Qed ["self"] (Qd ZX):=⟨rfl,rfl,rfl,by decide +kernel,rfl,by decide +kernel,by decide +kernel⟩
noncomputable abbrev ZJ:Stmt:=top 27
noncomputable abbrev Qdp:List Str:=["machine", "shot", "marks", "signs", "place", "sign", "mark", "following"]
theorem sc_check_shot:FnScope Qdp ["machine", "shot"] (Qd ZJ):=⟨rfl,rfl,rfl,by decide +kernel,rfl,by decide +kernel,by decide +kernel⟩
noncomputable abbrev ZK:Stmt:=top 28
noncomputable abbrev Qdq:List Str:=["machine", "shot", "steps", "walk", "done"]
theorem sc_after_from:FnScope Qdq ["machine", "shot", "steps"] (Qd ZK):=⟨rfl,rfl,rfl,by decide +kernel,rfl,by decide +kernel,by decide +kernel⟩
noncomputable abbrev Qaq:Stmt:=top 29
noncomputable abbrev Qkv:List Str:=["machine", "steps"]
theorem QiD:FnScope Qkv ["machine", "steps"] (Qd Qaq):=⟨rfl,rfl,rfl,by decide +kernel,rfl,by decide +kernel,by decide +kernel⟩
noncomputable abbrev Jq:Stmt:=top 31
noncomputable abbrev QiE:List Str:=["_law_script", "_law_at", "_law_cell", "_law_m"]
theorem sc_L_next:FnScope QiE ["_law_script", "_law_at"] (Qd Jq):=⟨rfl,rfl,rfl,by decide +kernel,rfl,by decide +kernel,by decide +kernel⟩
noncomputable abbrev YA:Stmt:=top 32
noncomputable abbrev QcA:List Str:=["_law_found", "_law_due"]
theorem Qhj:FnScope QcA ["_law_found", "_law_due"] (Qd YA):=⟨rfl,rfl,rfl,by decide +kernel,rfl,by decide +kernel,by decide +kernel⟩
noncomputable abbrev YN:Stmt:=top 33
noncomputable abbrev Qhk:List Str:=["_law_script", "_law_at", "_law_states", "_law_signs", "_law_table_here", "_law_k", "_law_line", "_law_j", "_law_m", "_law_entry"]
theorem sc_L_table:FnScope Qhk ["_law_script", "_law_at", "_law_states", "_law_signs"] (Qd YN):=⟨rfl,rfl,rfl,by decide +kernel,rfl,by decide +kernel,by decide +kernel⟩
noncomputable abbrev Jr:Stmt:=top 34
noncomputable abbrev QiF:List Str:=["_law_table_here", "_law_shot_here", "_law_state", "_law_place", "_law_cells", "_law_entry", "_law_made"]
theorem sc_L_step:FnScope QiF ["_law_table_here", "_law_shot_here"] (Qd Jr):=⟨rfl,rfl,rfl,by decide +kernel,rfl,by decide +kernel,by decide +kernel⟩
noncomputable abbrev YW:Stmt:=top 35
noncomputable abbrev QeY:List Str:=["_law_shot_here", "_law_state", "_law_place", "_law_cells"]
theorem sc_L_shot:FnScope QeY ["_law_shot_here"] (Qd YW):=⟨rfl,rfl,rfl,by decide +kernel,rfl,by decide +kernel,by decide +kernel⟩
noncomputable abbrev Qar:Stmt:=top 36
noncomputable abbrev Qkw:List Str:=["_law_table_here", "_law_shot_here", "_law_steps", "_law_row"]
theorem sc_L_run:FnScope Qkw ["_law_table_here", "_law_shot_here", "_law_steps"] (Qd Qar):=⟨rfl,rfl,rfl,by decide +kernel,rfl,by decide +kernel,by decide +kernel⟩
noncomputable abbrev YO:Stmt:=top 37
noncomputable abbrev Qhl:List Str:=["_law_script", "_law_at", "_law_states", "_law_signs", "_law_m", "_law_place", "_law_cells", "_law_k", "_law_sign"]
theorem sc_L_begin:FnScope Qhl ["_law_script", "_law_at", "_law_states", "_law_signs"] (Qd YO):=⟨rfl,rfl,rfl,by decide +kernel,rfl,by decide +kernel,by decide +kernel⟩
noncomputable abbrev YQ:Stmt:=top 38
noncomputable abbrev Qhm:List Str:=["_law_m", "_law_shot_here", "_law_states", "_law_signs", "_law_state", "_law_place", "_law_marks", "_law_some", "_law_far"]
theorem sc_L_wrong:FnScope Qhm ["_law_m", "_law_shot_here", "_law_states", "_law_signs"] (Qd YQ):=⟨rfl,rfl,rfl,by decide +kernel,rfl,by decide +kernel,by decide +kernel⟩
noncomputable abbrev ZY:Stmt:=top 39
noncomputable abbrev Qee:List Str:=["_law_machine", "_law_shot_here", "_law_error", "e"]
theorem sc_L_refused:FnScope Qee ["_law_machine", "_law_shot_here"] (Qd ZY):=⟨rfl,rfl,rfl,by decide +kernel,rfl,by decide +kernel,by decide +kernel⟩
noncomputable abbrev Qef:Stmt:=top 40
noncomputable abbrev QmO:List Str:=["_law_script", "_law_at", "_law_k", "_law_m", "_law_table_here", "_law_machine", "_law_begin_here", "_law_one", "_law_two", "_law_row", "_law_due", "_law_shot_here", "_law_half", "_law_rest"]
theorem sc_law:FnScope QmO ["_law_script"] (Qd Qef):=⟨rfl,rfl,rfl,by decide +kernel,rfl,by decide +kernel,by decide +kernel⟩
structure Zk (K:PySem.W.Frag) (mg:Str->Option Value) (ca:Nat->Addr):Prop where
 z_ValueError:mg "ValueError" = none
 z_all:mg "all" = none
 z_bool:mg "bool" = none
 z_dict:mg "dict" = none
 z_int:mg "int" = none
 z_isinstance:mg "isinstance" = none
 z_len:mg "len" = none
 z_list:mg "list" = none
 z_range:mg "range" = none
 z_reversed:mg "reversed" = none
 z_sorted:mg "sorted" = none
 z_str:mg "str" = none
 z_tuple:mg "tuple" = none
 z_zip:mg "zip" = none
 g_BLANK:∃ k,mg "BLANK" = some (.int 0 k)
 g_FIRST_SHOT:∃ u v,mg "FIRST_SHOT" = some u∧L2.RelV v u∧∀ μ H,Den K μ H v (.tup [(.int 0),(.int 0),(.tup [])])
 g_LEFT:∃ k,mg "LEFT" = some (.str (Str.ofString "l") k)
 g_RIGHT:∃ k,mg "RIGHT" = some (.str (Str.ofString "r") k)
 t_TapeError:mg "TapeError" = some (.ref (ca 0))∧CatX K ca (ca 0) [0,1,2,3,4,5,6,7,8,9,10] []
 x_NoMachine:mg "NoMachine" = some (.ref (ca 1))∧IsX K ca (.ref (ca 1)) [0,1,2,3,4,5,6,7,8,9,10] [1]
 x_NoMove:mg "NoMove" = some (.ref (ca 8))∧IsX K ca (.ref (ca 8)) [0,1,2,3,4,5,6,7,8,9,10] [8]
 x_NoNames:mg "NoNames" = some (.ref (ca 2))∧IsX K ca (.ref (ca 2)) [0,1,2,3,4,5,6,7,8,9,10] [2]
 x_NoNumber:mg "NoNumber" = some (.ref (ca 3))∧IsX K ca (.ref (ca 3)) [0,1,2,3,4,5,6,7,8,9,10] [3]
 x_NoShape:mg "NoShape" = some (.ref (ca 7))∧IsX K ca (.ref (ca 7)) [0,1,2,3,4,5,6,7,8,9,10] [7]
 x_NoShot:mg "NoShot" = some (.ref (ca 4))∧IsX K ca (.ref (ca 4)) [0,1,2,3,4,5,6,7,8,9,10] [4]
 x_NoStretches:mg "NoStretches" = some (.ref (ca 5))∧IsX K ca (.ref (ca 5)) [0,1,2,3,4,5,6,7,8,9,10] [5]
 x_NoText:mg "NoText" = some (.ref (ca 10))∧IsX K ca (.ref (ca 10)) [0,1,2,3,4,5,6,7,8,9,10] [10]
 x_NoWidth:mg "NoWidth" = some (.ref (ca 9))∧IsX K ca (.ref (ca 9)) [0,1,2,3,4,5,6,7,8,9,10] [9]
 x_TooLong:mg "TooLong" = some (.ref (ca 6))∧IsX K ca (.ref (ca 6)) [0,1,2,3,4,5,6,7,8,9,10] [6]
 x_ValueError:bootBuiltins "ValueError" = some (.type "ValueError")∧IsX K ca (.type "ValueError") [0,1,2,3,4,5,6,7,8,9,10] [0,1,2,3,4,5,6,7,8,9,10]
 e_NoShot:RaH K mg ca 4 "NoShot"
 a_left_marks:FldOk K ca [12] "left_marks"
 a_place:FldOk K ca [12] "place"
 a_right_marks:FldOk K ca [12] "right_marks"
 a_state:FldOk K ca [12] "state"
 a_table:FldOk K ca [11,12] "table"
 u_is_whole:∃ f fd,Fun K "is_whole" "is_whole" Yd f fd∧mg "is_whole" = some (.ref f)
 u_is_below:∃ f fd,Fun K "is_below" "is_below" Ye f fd∧mg "is_below" = some (.ref f)
 u_is_entry:∃ f fd,Fun K "is_entry" "is_entry" Yf f fd∧mg "is_entry" = some (.ref f)
 u_check_rows:∃ f fd,Fun K "check_rows" "check_rows" Zq f fd∧mg "check_rows" = some (.ref f)
 u_Machine_init:∃ f fd,Fun K "__init__" "Machine.__init__" QZ f fd∧Mk K (ca 11) f∧mg "Machine" = some (.ref (ca 11))
 u_states_of:∃ f fd,Fun K "states_of" "states_of" ZW f fd∧mg "states_of" = some (.ref f)
 u_signs_of:∃ f fd,Fun K "signs_of" "signs_of" Yg f fd∧mg "signs_of" = some (.ref f)
 u_Walk_init:∃ f fd,Fun K "__init__" "Walk.__init__" Zr f fd∧Mk K (ca 12) f∧mg "Walk" = some (.ref (ca 12))
 u_Walk_is_on_mark:∃ f fd,Fun K "is_on_mark" "Walk.is_on_mark" QP f fd∧Meth K (ca 12) "is_on_mark" f∧Cls K (ca 12)
 u_Walk_entry:∃ f fd,Fun K "entry" "Walk.entry" ZH f fd∧Meth K (ca 12) "entry" f∧Cls K (ca 12)
 u_Walk_write:∃ f fd,Fun K "write" "Walk.write" ZI f fd∧Meth K (ca 12) "write" f∧Cls K (ca 12)
 u_Walk_go_right:∃ f fd,Fun K "go_right" "Walk.go_right" Q6 f fd∧Meth K (ca 12) "go_right" f∧Cls K (ca 12)
 u_Walk_go_left:∃ f fd,Fun K "go_left" "Walk.go_left" Ze f fd∧Meth K (ca 12) "go_left" f∧Cls K (ca 12)
 u_Walk_stepped:∃ f fd,Fun K "stepped" "Walk.stepped" Zf f fd∧Meth K (ca 12) "stepped" f∧Cls K (ca 12)
 u_Walk_run:∃ f fd,Fun K "run" "Walk.run" Yh f fd∧Meth K (ca 12) "run" f∧Cls K (ca 12)
 u_Walk_shot:∃ f fd,Fun K "shot" "Walk.shot" ZX f fd∧Meth K (ca 12) "shot" f∧Cls K (ca 12)
 u_check_shot:∃ f fd,Fun K "check_shot" "check_shot" ZJ f fd∧mg "check_shot" = some (.ref f)
 u_after_from:∃ f fd,Fun K "after_from" "after_from" ZK f fd∧mg "after_from" = some (.ref f)
 u_after:∃ f fd,Fun K "after" "after" Qaq f fd∧mg "after" = some (.ref f)
 u_L_next:∃ f fd,Fun K "_law_next" "_law_next" Jq f fd∧mg "_law_next" = some (.ref f)
 u_L_same:∃ f fd,Fun K "_law_same" "_law_same" YA f fd∧mg "_law_same" = some (.ref f)
 u_L_table:∃ f fd,Fun K "_law_table" "_law_table" YN f fd∧mg "_law_table" = some (.ref f)
 u_L_step:∃ f fd,Fun K "_law_step" "_law_step" Jr f fd∧mg "_law_step" = some (.ref f)
 u_L_shot:∃ f fd,Fun K "_law_shot" "_law_shot" YW f fd∧mg "_law_shot" = some (.ref f)
 u_L_run:∃ f fd,Fun K "_law_run" "_law_run" Qar f fd∧mg "_law_run" = some (.ref f)
 u_L_begin:∃ f fd,Fun K "_law_begin" "_law_begin" YO f fd∧mg "_law_begin" = some (.ref f)
 u_L_wrong:∃ f fd,Fun K "_law_wrong" "_law_wrong" YQ f fd∧mg "_law_wrong" = some (.ref f)
 u_L_refused:∃ f fd,Fun K "_law_refused" "_law_refused" ZY f fd∧mg "_law_refused" = some (.ref f)
 u_law:∃ f fd,Fun K "law" "law" Qef f fd∧mg "law" = some (.ref f)
section
seal PE3 PT3 PW3 PA3 PS3 PSs3 PG3 PI3
variable {P:Program} {w:World} {K:PySem.W.Frag} {mg:Str->Option Value} {base:Heap} {ca:Nat->Addr}
theorem Qeg (Z:Zk K mg ca):FnH P w K mg base ca "is_whole" 1 1 Jm:=by
 obtain⟨f,fd,F,hm⟩:=Z.u_is_whole
 exact⟨⟨f,fd,["value"],ZQ F Qd8 rfl rfl (fun cdv A outer s H E hr=>(Qh (QU (Qa1 (Yn .int Z.z_isinstance Z.z_int QiW (Qb 0)) (Qb6 (Qlj (Yn .bool Z.z_isinstance Z.z_bool QgE (Qb 0)))))))),hm,F.kp,F.binds (ps:=["value"]) (fun _ _ _ _ _ _ us hl=>by obtain⟨_,rfl⟩:=L3.len1 hl; rfl)⟩,QD _ _ _⟩
theorem YX (Z:Zk K mg ca):FnH P w K mg base ca "is_below" 2 2 QL:=by
 obtain⟨f,fd,F,hm⟩:=Z.u_is_below
 exact⟨⟨f,fd,["value", "many"],ZQ F Qd9 rfl rfl (fun cdv A outer s H E hr=>(Qh (QU (Qa1 (QH (Qeg Z) (hr.mono (by omega)) (Qe (Qb 0) Qk)) (Qb6 (Qly Qi (Qb 0) (Qb 1))))))),hm,F.kp,F.binds (ps:=["value", "many"]) (fun _ _ _ _ _ _ us hl=>by obtain⟨_,_,rfl⟩:=L3.len2 hl; rfl)⟩,QD _ _ _⟩
theorem Qeh (Z:Zk K mg ca):FnH P w K mg base ca "is_entry" 3 3 Yc:=by
 obtain⟨f,fd,F,hm⟩:=Z.u_is_entry
 exact⟨⟨f,fd,["thing", "states", "signs"],ZQ F Qea rfl rfl (fun cdv A outer s H E hr=>(Qc (r_if (Qgp (Qb 0) QcT) (Qh (QU r_bl)) QC)
 (Qc (r_if (r_w (QaA (Jt (Q1 (Yn .tuple Z.z_isinstance Z.z_tuple QaJ (Qb 0)))) (Qau (Qfc hr (Ym Z.z_len (Qb 0)) Qi)))) (Qh (QU r_bl)) QC)
 (Qh (QU (Qa1 (QH (YX Z) (hr.mono (by omega)) (Qe (Qr (Qb 0) Qi) (Qe (Qb 2) Qk))) (Qa1 (r_in (Qr (Qb 0) Qi) (Zv (Qe (QgC Z.g_LEFT) (Qe (QgC Z.g_RIGHT) Qk)))) (Qb6 (QH (YX Z) (hr.mono (by omega)) (Qe (Qr (Qb 0) Qi) (Qe (Qb 1) Qk))))))))))),hm,F.kp,F.binds (ps:=["thing", "states", "signs"]) (fun _ _ _ _ _ _ us hl=>by obtain⟨_,_,_,rfl⟩:=L3.len3 hl; rfl)⟩,QD _ _ _⟩
theorem QcB (Z:Zk K mg ca):FnH P w K mg base ca "check_rows" 4 1 ZC:=by
 obtain⟨f,fd,F,hm⟩:=Z.u_check_rows
 exact⟨⟨f,fd,["rows"],ZQ F sc_check_rows rfl rfl (fun cdv A outer s H E hr=>(Qc (r_if (Qae hr (Ym Z.z_len (Qb 0)) Qi) (Qh Qb7) QC)
 (Qc (QX 1 sc_check_rows.nd (Ym Z.z_len (Qb 0)))
 (Qc (QX 2 sc_check_rows.nd (Ym Z.z_len (Qr (Qb 0) Qi)))
 (Qc (r_if (Qae hr (Qb 2) Qi) (Qh Qb7) QC)
 (Qh (QdF rfl (JC (Qb 0)) (Q0 3 sc_check_rows.nd) (Qc (r_if (Qfc hr (Ym Z.z_len (Qb 3)) (Qb 2)) (Qh Qb7) QC)
 (Qh (r_if (Jt (Q1 (QjK rfl Z.z_all (Qa4 (Yo (Nb:=["thing", "states", "signs"]) (no:=1) (cap:=[1,2]) (N:=Qay) (sc:=Qd Zq) rfl rfl (by decide +kernel)) rfl (JC (Qb 3)) (fun cl C s3 H3 ex=>⟨(Q0 0 (show List.Nodup (["thing", "states", "signs"]:List Str) by decide +kernel)),Qgl,(QH (Qeh Z) (hr.mono (by omega)) (Qe (Qb 0) (Qe (Qb 1) (Qe (Qb 2) Qk))))⟩))))) (Qh Qb7) QC)))))))))),hm,F.kp,F.binds (ps:=["rows"]) (fun _ _ _ _ _ _ us hl=>by obtain⟨_,rfl⟩:=L3.len1 hl; rfl)⟩,QD _ _ _⟩
theorem Qbs (Z:Zk K mg ca):MkH P w K mg base ca 11 "Machine" 5 2 Zx:=by
 obtain⟨f,fd,F,hm⟩:=Z.u_Machine_init
 exact⟨⟨f,fd,["self", "table"],ZQ F sc_Machine_init rfl rfl (fun cdv A outer s H E hr=>(Qc (QX 2 sc_Machine_init.nd (Qcb Z.z_tuple (Qa4 (Yo (Nb:=["row"]) (no:=1) (cap:=[]) (N:=Jw) (sc:=Qd QZ) rfl rfl (by decide +kernel)) rfl (JC (Qb 1)) (fun cl C s3 H3 ex=>⟨(Q0 0 (show List.Nodup (["row"]:List Str) by decide +kernel)),Qgl,(Qcb Z.z_tuple (Qb 0))⟩))))
 (Qc (Yv (QH (QcB Z) (hr.mono (by omega)) (Qe (Qb 2) Qk)))
 (Qh (ZP (Qb 0) (Qb 2) Z.a_table))))),hm.1,hm.2,F.binds (ps:=["self", "table"]) (fun _ _ _ _ _ _ us hl=>by obtain⟨_,_,rfl⟩:=L3.len2 hl; rfl)⟩,QD _ _ _⟩
theorem Qdr (Z:Zk K mg ca):FnH P w K mg base ca "states_of" 1 1 ZV:=by
 obtain⟨f,fd,F,hm⟩:=Z.u_states_of
 exact⟨⟨f,fd,["machine"],ZQ F Qdk rfl rfl (fun cdv A outer s H E hr=>(Qh (QU (Ym Z.z_len (Q2 (Qb 0) Z.a_table))))),hm,F.kp,F.binds (ps:=["machine"]) (fun _ _ _ _ _ _ us hl=>by obtain⟨_,rfl⟩:=L3.len1 hl; rfl)⟩,QD _ _ _⟩
theorem Qei (Z:Zk K mg ca):FnH P w K mg base ca "signs_of" 1 1 YH:=by
 obtain⟨f,fd,F,hm⟩:=Z.u_signs_of
 exact⟨⟨f,fd,["machine"],ZQ F Qec rfl rfl (fun cdv A outer s H E hr=>(Qh (QU (Ym Z.z_len (Qr (Q2 (Qb 0) Z.a_table) Qi))))),hm,F.kp,F.binds (ps:=["machine"]) (fun _ _ _ _ _ _ us hl=>by obtain⟨_,rfl⟩:=L3.len1 hl; rfl)⟩,QD _ _ _⟩
theorem Qds (Z:Zk K mg ca):MkH P w K mg base ca 12 "Walk" 1 3 YT:=by
 obtain⟨f,fd,F,hm⟩:=Z.u_Walk_init
 exact⟨⟨f,fd,["self", "machine", "shot"],ZQ F Qdl rfl rfl (fun cdv A outer s H E hr=>(Qc (ZP (Qb 0) (Q2 (Qb 1) Z.a_table) Z.a_table)
 (Qc (ZP (Qb 0) (Qr (Qb 2) Qi) Z.a_state)
 (Qc (ZP (Qb 0) (Qr (Qb 2) Qi) Z.a_place)
 (Qc (ZP (Qb 0) (Qa4 (Yo (Nb:=["place", "sign", "self"]) (no:=2) (cap:=[0]) (N:=JP) (sc:=Qd Zr) rfl rfl (by decide +kernel)) rfl (JC (Qr (Qb 2) Qi)) (fun cl C s3 H3 ex=>⟨(Qaw rfl (Za (Q0 0 (show List.Nodup (["place", "sign", "self"]:List Str) by decide +kernel)) (Za (Q0 1 (show List.Nodup (["place", "sign", "self"]:List Str) by decide +kernel)) Qav))),(Qlo (Qlq (Qb 0) (Q2 (Qb 2) Z.a_place))),(Zv (Qe (Qb 0) (Qe (Qb 1) Qk)))⟩)) Z.a_left_marks)
 (Qh (ZP (Qb 0) (Qa4 (Yo (Nb:=["place", "sign", "self"]) (no:=2) (cap:=[0]) (N:=JP) (sc:=Qd Zr) rfl rfl (by decide +kernel)) rfl (QjV Z.z_reversed (Qr (Qb 2) Qi)) (fun cl C s3 H3 ex=>⟨(Qaw rfl (Za (Q0 0 (show List.Nodup (["place", "sign", "self"]:List Str) by decide +kernel)) (Za (Q0 1 (show List.Nodup (["place", "sign", "self"]:List Str) by decide +kernel)) Qav))),(Qlo (Qlr (Qb 0) (Q2 (Qb 2) Z.a_place))),(Zv (Qe (Qb 0) (Qe (Qb 1) Qk)))⟩)) Z.a_right_marks))))))),hm.1,hm.2,F.binds (ps:=["self", "machine", "shot"]) (fun _ _ _ _ _ _ us hl=>by obtain⟨_,_,_,rfl⟩:=L3.len3 hl; rfl)⟩,QD _ _ _⟩
theorem ZU (Z:Zk K mg ca):MtH P w K mg base ca 12 "is_on_mark" 1 1 Qy:=by
 obtain⟨f,fd,F,hm⟩:=Z.u_Walk_is_on_mark
 exact⟨⟨f,fd,["self"],ZQ F Qab rfl rfl (fun cdv A outer s H E hr=>(Qh (QU (Qa1 (r_gt (Ym Z.z_len (Q2 (Qb 0) Z.a_right_marks)) Qi) (Qb6 (r_eq hr (Qr (Qr (Q2 (Qb 0) Z.a_right_marks) (Qfb Qi)) Qi) (Q2 (Qb 0) Z.a_place))))))),hm.1,hm.2,F.binds (ps:=["self"]) (fun _ _ _ _ _ _ us hl=>by obtain⟨_,rfl⟩:=L3.len1 hl; rfl)⟩,QD _ _ _⟩
theorem QcC (Z:Zk K mg ca):MtH P w K mg base ca 12 "entry" 2 1 Yx:=by
 obtain⟨f,fd,F,hm⟩:=Z.u_Walk_entry
 exact⟨⟨f,fd,["self"],ZQ F sc_Walk_entry rfl rfl (fun cdv A outer s H E hr=>(Qc (QX 1 sc_Walk_entry.nd (Qmx (Q1 (Y5 (ZU Z) (hr.mono (by omega)) (Qb 0))) (Qr (Qr (Q2 (Qb 0) Z.a_right_marks) (Qfb Qi)) Qi) (QgD Z.g_BLANK)))
 (Qh (QU (Qr (Qr (Q2 (Qb 0) Z.a_table) (Q2 (Qb 0) Z.a_state)) (Qb 1)))))),hm.1,hm.2,F.binds (ps:=["self"]) (fun _ _ _ _ _ _ us hl=>by obtain⟨_,rfl⟩:=L3.len1 hl; rfl)⟩,QD _ _ _⟩
theorem QcD (Z:Zk K mg ca):MtH P w K mg base ca 12 "write" 2 2 Yy:=by
 obtain⟨f,fd,F,hm⟩:=Z.u_Walk_write
 exact⟨⟨f,fd,["self", "sign"],ZQ F Qcz rfl rfl (fun cdv A outer s H E hr=>(Qc (r_if (Q1 (Y5 (ZU Z) (hr.mono (by omega)) (Qb 0))) (Qh (Yv (QjG (Q2 (Qb 0) Z.a_right_marks)))) QC)
 (Qh (r_if (Qfc hr (Qb 1) (QgD Z.g_BLANK)) (Qh (Yv (Jj (Q2 (Qb 0) Z.a_right_marks) (Zv (Qe (Q2 (Qb 0) Z.a_place) (Qe (Qb 1) Qk)))))) QC)))),hm.1,hm.2,F.binds (ps:=["self", "sign"]) (fun _ _ _ _ _ _ us hl=>by obtain⟨_,_,rfl⟩:=L3.len2 hl; rfl)⟩,QD _ _ _⟩
theorem QaE (Z:Zk K mg ca):MtH P w K mg base ca 12 "go_right" 2 1 ZR:=by
 obtain⟨f,fd,F,hm⟩:=Z.u_Walk_go_right
 exact⟨⟨f,fd,["self"],ZQ F QaD rfl rfl (fun cdv A outer s H E hr=>(Qc (r_if (Q1 (Y5 (ZU Z) (hr.mono (by omega)) (Qb 0))) (Qh (Yv (Jj (Q2 (Qb 0) Z.a_left_marks) (QjG (Q2 (Qb 0) Z.a_right_marks))))) QC)
 (Qh (ZP (Qb 0) (Z9 (Q2 (Qb 0) Z.a_place) Qi) Z.a_place)))),hm.1,hm.2,F.binds (ps:=["self"]) (fun _ _ _ _ _ _ us hl=>by obtain⟨_,rfl⟩:=L3.len1 hl; rfl)⟩,QD _ _ _⟩
theorem Qbt (Z:Zk K mg ca):MtH P w K mg base ca 12 "go_left" 1 1 Z0:=by
 obtain⟨f,fd,F,hm⟩:=Z.u_Walk_go_left
 exact⟨⟨f,fd,["self"],ZQ F Qbr rfl rfl (fun cdv A outer s H E hr=>(Qc (ZP (Qb 0) (Qgn (Q2 (Qb 0) Z.a_place) Qi) Z.a_place)
 (Qh (r_if (r_w (QiO (QjB (Ym Z.z_len (Q2 (Qb 0) Z.a_left_marks)) Qi) (Qgb (Qae hr (Qr (Qr (Q2 (Qb 0) Z.a_left_marks) (Qfb Qi)) Qi) (Q2 (Qb 0) Z.a_place))))) (Qh (Yv (Jj (Q2 (Qb 0) Z.a_right_marks) (QjG (Q2 (Qb 0) Z.a_left_marks))))) QC)))),hm.1,hm.2,F.binds (ps:=["self"]) (fun _ _ _ _ _ _ us hl=>by obtain⟨_,rfl⟩:=L3.len1 hl; rfl)⟩,QD _ _ _⟩
theorem Qbu (Z:Zk K mg ca):MtH P w K mg base ca 12 "stepped" 3 1 QI:=by
 obtain⟨f,fd,F,hm⟩:=Z.u_Walk_stepped
 exact⟨⟨f,fd,["self"],ZQ F sc_Walk_stepped rfl rfl (fun cdv A outer s H E hr=>(Qc (QX 1 sc_Walk_stepped.nd (Y5 (QcC Z) (hr.mono (by omega)) (Qb 0)))
 (Qc (r_if (Qgp (Qb 1) QcT) (Qh (QU r_bl)) QC)
 (Qc (Yv (QiR (QcD Z) (hr.mono (by omega)) (Qb 0) (Qe (Qr (Qb 1) Qi) Qk)))
 (Qc (r_if (Qae hr (Qr (Qb 1) Qi) (QgC Z.g_RIGHT)) (Qh (Yv (Y5 (QaE Z) (hr.mono (by omega)) (Qb 0)))) (Qh (Yv (Y5 (Qbt Z) (hr.mono (by omega)) (Qb 0)))))
 (Qc (ZP (Qb 0) (Qr (Qb 1) Qi) Z.a_state)
 (Qh (QU r_bl)))))))),hm.1,hm.2,F.binds (ps:=["self"]) (fun _ _ _ _ _ _ us hl=>by obtain⟨_,rfl⟩:=L3.len1 hl; rfl)⟩,QD _ _ _⟩
theorem Qej (Z:Zk K mg ca):MtH P w K mg base ca 12 "run" 4 2 Qal:=by
 obtain⟨f,fd,F,hm⟩:=Z.u_Walk_run
 exact⟨⟨f,fd,["self", "steps"],ZQ F sc_Walk_run rfl rfl (fun cdv A outer s H E hr=>(Qc (QX 2 sc_Walk_run.nd Qi)
 (Qc (Qgf (r_w (QiO (Qlq (Qb 2) (Qb 1)) (Qgb (Q1 (Y5 (Qbu Z) (hr.mono (by omega)) (Qb 0)))))) (Qh (QX 2 sc_Walk_run.nd (Z9 (Qb 2) Qi))))
 (Qh (QU (Qb 2)))))),hm.1,hm.2,F.binds (ps:=["self", "steps"]) (fun _ _ _ _ _ _ us hl=>by obtain⟨_,_,rfl⟩:=L3.len2 hl; rfl)⟩,QD _ _ _⟩
theorem Qdt (Z:Zk K mg ca):MtH P w K mg base ca 12 "shot" 1 1 JI:=by
 obtain⟨f,fd,F,hm⟩:=Z.u_Walk_shot
 exact⟨⟨f,fd,["self"],ZQ F Qdo rfl rfl (fun cdv A outer s H E hr=>(Qh (QU (Zv (Qe (Q2 (Qb 0) Z.a_state) (Qe (Q2 (Qb 0) Z.a_place) (Qe (Z9 (Qcb Z.z_tuple (Q2 (Qb 0) Z.a_left_marks)) (Qfm rfl Z.z_tuple Z.z_reversed (Q2 (Qb 0) Z.a_right_marks))) Qk))))))),hm.1,hm.2,F.binds (ps:=["self"]) (fun _ _ _ _ _ _ us hl=>by obtain⟨_,rfl⟩:=L3.len1 hl; rfl)⟩,QD _ _ _⟩
theorem QcE (Z:Zk K mg ca):FnH P w K mg base ca "check_shot" 3 2 ZD:=by
 obtain⟨f,fd,F,hm⟩:=Z.u_check_shot
 exact⟨⟨f,fd,["machine", "shot"],ZQ F sc_check_shot rfl rfl (fun cdv A outer s H E hr=>(Qc (r_if (Jt (Q1 (QH (YX Z) (hr.mono (by omega)) (Qe (Qr (Qb 1) Qi) (Qe (QH (Qdr Z) (hr.mono (by omega)) (Qe (Qb 0) Qk)) Qk))))) (Qh (QdH Z.e_NoShot hr.hd (Qe Qga Qk))) QC)
 (Qc (QX 2 sc_check_shot.nd (Qr (Qb 1) Qi))
 (Qc (QX 3 sc_check_shot.nd (QH (Qei Z) (hr.mono (by omega)) (Qe (Qb 0) Qk)))
 (Qc (QdF rfl (JC (Qb 2)) (Qaw rfl (Za (Q0 4 sc_check_shot.nd) (Za (Q0 5 sc_check_shot.nd) Qav))) (Qh (r_if (r_w (QaA (Jt (Q1 (QH (YX Z) (hr.mono (by omega)) (Qe (Qb 5) (Qe (Qb 3) Qk))))) (Qau (Qae hr (Qb 5) (QgD Z.g_BLANK))))) (Qh (QdH Z.e_NoShot hr.hd (Qe Qga Qk))) QC)))
 (Qh (QdF rfl (Qlx Z.z_zip (Qb 2) (Qgx (Qb 2) (QiU Qi) Qey)) (Qaw rfl (Za (Q0 6 sc_check_shot.nd) (Za (Q0 7 sc_check_shot.nd) Qav))) (Qh (r_if (Qlr (Qr (Qb 6) Qi) (Qr (Qb 7) Qi)) (Qh (QdH Z.e_NoShot hr.hd (Qe Qga Qk))) QC))))))))),hm,F.kp,F.binds (ps:=["machine", "shot"]) (fun _ _ _ _ _ _ us hl=>by obtain⟨_,_,rfl⟩:=L3.len2 hl; rfl)⟩,QD _ _ _⟩
theorem Zc (Z:Zk K mg ca):FnH P w K mg base ca "after_from" 5 3 Qz:=by
 obtain⟨f,fd,F,hm⟩:=Z.u_after_from
 exact⟨⟨f,fd,["machine", "shot", "steps"],ZQ F sc_after_from rfl rfl (fun cdv A outer s H E hr=>(Qc (Yv (QH (QcE Z) (hr.mono (by omega)) (Qe (Qb 0) (Qe (Qb 1) Qk))))
 (Qc (QX 3 sc_after_from.nd (QiS (Qds Z) (hr.mono (by omega)) (Qe (Qb 0) (Qe (Qb 1) Qk))))
 (Qc (QX 4 sc_after_from.nd (QiR (Qej Z) (hr.mono (by omega)) (Qb 3) (Qe (Qb 2) Qk)))
 (Qh (QU (Zv (Qe (Y5 (Qdt Z) (hr.mono (by omega)) (Qb 3)) (Qe (Qb 4) Qk))))))))),hm,F.kp,F.binds (ps:=["machine", "shot", "steps"]) (fun _ _ _ _ _ _ us hl=>by obtain⟨_,_,_,rfl⟩:=L3.len3 hl; rfl)⟩,QD _ _ _⟩
theorem QiG (Z:Zk K mg ca):FnH P w K mg base ca "after" 6 2 QdT:=by
 obtain⟨f,fd,F,hm⟩:=Z.u_after
 exact⟨⟨f,fd,["machine", "steps"],ZQ F QiD rfl rfl (fun cdv A outer s H E hr=>(Qh (QU (QH (Zc Z) (hr.mono (by omega)) (Qe (Qb 0) (Qe (Qj3 Z.g_FIRST_SHOT) (Qe (Qb 1) Qk))))))),hm,F.kp,F.binds (ps:=["machine", "steps"]) (fun _ _ _ _ _ _ us hl=>by obtain⟨_,_,rfl⟩:=L3.len2 hl; rfl)⟩,QD _ _ _⟩
theorem Jf (Z:Zk K mg ca):FnH P w K mg base ca "_law_next" 1 2 Yb:=by
 obtain⟨f,fd,F,hm⟩:=Z.u_L_next
 exact⟨⟨f,fd,["_law_script", "_law_at"],ZQ F sc_L_next rfl rfl (fun cdv A outer s H E hr=>(Qc (Qjy (Qb 1) Qi (Z9 (Qr (Qb 1) Qi) Qi))
 (Qc (QX 2 sc_L_next.nd Qi)
 (Qc (r_if (QjB (Ym Z.z_len (Qb 0)) Qi) (Qh (QX 2 sc_L_next.nd (Qr (Qb 0) (Yl (Qr (Qb 1) Qi) (Ym Z.z_len (Qb 0)))))) QC)
 (Qc (QX 3 sc_L_next.nd (Yl (QhK (Z9 (Z9 (Yl (Qb 2) Qi) (QhK (QhK (Qr (Qb 1) Qi) (Qr (Qb 1) Qi)) Qi)) Qi) Qi) Qi))
 (Qh (QU (Yl (QhK (Qb 3) (Qb 3)) Qi)))))))),hm,F.kp,F.binds (ps:=["_law_script", "_law_at"]) (fun _ _ _ _ _ _ us hl=>by obtain⟨_,_,rfl⟩:=L3.len2 hl; rfl)⟩,QD _ _ _⟩
theorem Jg (Z:Zk K mg ca):∀ n:Nat,FnH P w K mg base ca "_law_same" (1+n) 2 (Zz n)
 | 0=>by
  obtain⟨f,fd,F,hm⟩:=Z.u_L_same
  exact⟨⟨f,fd,["_law_found", "_law_due"],QjS rfl,hm,F.kp,F.binds (ps:=["_law_found", "_law_due"]) (fun _ _ _ _ _ _ us hl=>by obtain⟨_,_,rfl⟩:=L3.len2 hl; rfl)⟩,fun _ _ _=>rfl⟩
 | n+1=>by
  have ih:=Jg Z n
  obtain⟨f,fd,F,hm⟩:=Z.u_L_same
  exact⟨⟨f,fd,["_law_found", "_law_due"],ZQ F Qhj rfl rfl (fun cdv A outer s H E hr=>(Qc (r_if (Q1 (Yn .dict Z.z_isinstance Z.z_dict QgF (Qb 1))) (Qc (r_if (r_w (QaA (Jt (Q1 (Yn .dict Z.z_isinstance Z.z_dict QgF (Qb 0)))) (Qau (Qfc hr (Ym Z.z_len (Qb 0)) (Ym Z.z_len (Qb 1)))))) (Qh (QU r_bl)) QC)
 (Qh (QU (QjK rfl Z.z_all (Qa4 (Yo (Nb:=["_law_name", "_law_found", "_law_due"]) (no:=1) (cap:=[0,1]) (N:=QcA) (sc:=Qd YA) rfl rfl (by decide +kernel)) rfl (JC (Qb 1)) (fun cl C s3 H3 ex=>⟨(Q0 0 (show List.Nodup (["_law_name", "_law_found", "_law_due"]:List Str) by decide +kernel)),Qgl,(Qa1 (r_in (Qb 0) (Qb 1)) (Qb6 (QH ih hr (Qe (Qr (Qb 1) (Qb 0)) (Qe (Qr (Qb 2) (Qb 0)) Qk)))))⟩)))))) QC)
 (Qc (r_if (r_w (QaA (Q1 (Yn .list Z.z_isinstance Z.z_list QdI (Qb 1))) (Qau (Q1 (Yn .tuple Z.z_isinstance Z.z_tuple QaJ (Qb 1)))))) (Qc (r_if (r_w (QaA (Qfc hr (Yn .list Z.z_isinstance Z.z_list QdI (Qb 0)) (Yn .list Z.z_isinstance Z.z_list QdI (Qb 1))) (Qau (Qfc hr (Yn .tuple Z.z_isinstance Z.z_tuple QaJ (Qb 0)) (Yn .tuple Z.z_isinstance Z.z_tuple QaJ (Qb 1)))))) (Qh (QU r_bl)) QC)
 (Qh (QU (Qa1 (r_eq hr (Ym Z.z_len (Qb 0)) (Ym Z.z_len (Qb 1))) (Qb6 (QjK rfl Z.z_all (Qa4 (Yo (Nb:=["_law_one", "_law_other"]) (no:=2) (cap:=[]) (N:=QcA) (sc:=Qd YA) rfl rfl (by decide +kernel)) rfl (Qlx Z.z_zip (Qb 0) (Qb 1)) (fun cl C s3 H3 ex=>⟨(Qaw rfl (Za (Q0 0 (show List.Nodup (["_law_one", "_law_other"]:List Str) by decide +kernel)) (Za (Q0 1 (show List.Nodup (["_law_one", "_law_other"]:List Str) by decide +kernel)) Qav))),Qgl,(QH ih hr (Qe (Qb 0) (Qe (Qb 1) Qk)))⟩)))))))) QC)
 (Qc (r_if (Q1 (Yn .str Z.z_isinstance Z.z_str QiX (Qb 1))) (Qh (QU (Qa1 (Yn .str Z.z_isinstance Z.z_str QiX (Qb 0)) (Qb6 (r_eq hr (Qb 0) (Qb 1)))))) QC)
 (Qh (QU (Qa1 (Yn .int Z.z_isinstance Z.z_int QiW (Qb 0)) (Qa1 (Qlj (Yn .bool Z.z_isinstance Z.z_bool QgE (Qb 0))) (Qb6 (r_eq hr (Qb 0) (Qb 1))))))))))),hm,F.kp,F.binds (ps:=["_law_found", "_law_due"]) (fun _ _ _ _ _ _ us hl=>by obtain⟨_,_,rfl⟩:=L3.len2 hl; rfl)⟩,QD _ _ _⟩
theorem QfI (Z:Zk K mg ca):FnH P w K mg base ca "_law_table" 2 4 Qbe:=by
 obtain⟨f,fd,F,hm⟩:=Z.u_L_table
 exact⟨⟨f,fd,["_law_script", "_law_at", "_law_states", "_law_signs"],ZQ F sc_L_table rfl rfl (fun cdv A outer s H E hr=>(Qc (QX 4 sc_L_table.nd (Qgc Qk))
 (Qc (QdF rfl (QaH Z.z_range (Qb 2)) (Q0 5 sc_L_table.nd) (Qc (QX 6 sc_L_table.nd (Qgc Qk))
 (Qc (QdF rfl (QaH Z.z_range (Qb 3)) (Q0 7 sc_L_table.nd) (Qc (QX 8 sc_L_table.nd (QH (Jf Z) (hr.mono (by omega)) (Qe (Qb 0) (Qe (Qb 1) Qk))))
 (Qc (QX 9 sc_L_table.nd (Zv (Qe (Yl (Y7 (Qb 8) Qi) (Qb 3)) (Qe (Qr Qga (Yl (Y7 (Qb 8) Qi) Qi)) (Qe (Yl (Y7 (Qb 8) Qi) (Qb 2)) Qk)))))
 (Qc (r_if (Qae hr (Yl (Qb 8) Qi) Qi) (Qh (QX 9 sc_L_table.nd QcT)) QC)
 (Qh (Yv (Jj (Qb 6) (Qb 9))))))))
 (Qh (Yv (Jj (Qb 4) (Qb 6)))))))
 (Qh (QU (Qb 4)))))),hm,F.kp,F.binds (ps:=["_law_script", "_law_at", "_law_states", "_law_signs"]) (fun _ _ _ _ _ _ us hl=>by obtain⟨_,_,_,_,rfl⟩:=L3.len4 hl; rfl)⟩,QD _ _ _⟩
theorem Qhn (Z:Zk K mg ca):FnH P w K mg base ca "_law_step" 1 2 Jo:=by
 obtain⟨f,fd,F,hm⟩:=Z.u_L_step
 exact⟨⟨f,fd,["_law_table_here", "_law_shot_here"],ZQ F sc_L_step rfl rfl (fun cdv A outer s H E hr=>(Qc (Qjx (Qb 1) (Qaw rfl (Za (Q0 2 sc_L_step.nd) (Za (Q0 3 sc_L_step.nd) (Za (Q0 4 sc_L_step.nd) Qav)))))
 (Qc (QX 5 sc_L_step.nd (Qr (Qr (Qb 0) (Qb 2)) (Qj6 (Qb 4) (Qb 3) Qi)))
 (Qc (r_if (Qgp (Qb 5) QcT) (Qh (QU QcT)) QC)
 (Qc (QX 6 sc_L_step.nd (QlZ Z.z_dict (Qb 4)))
 (Qc (Qi6 (Qb 6) (Qb 3) (Qr (Qb 5) Qi))
 (Qc (r_if (Qae hr (Qr (Qb 5) Qi) Qi) (Qh (Yv (Ql0 (Qb 6) (Qb 3)))) QC)
 (Qc (r_if (Qae hr (Qr (Qb 5) Qi) Qga) (Qh (QU (Zv (Qe (Qr (Qb 5) Qi) (Qe (Z9 (Qb 3) Qi) (Qe (Qb 6) Qk)))))) QC)
 (Qh (QU (Zv (Qe (Qr (Qb 5) Qi) (Qe (Qgn (Qb 3) Qi) (Qe (Qb 6) Qk)))))))))))))),hm,F.kp,F.binds (ps:=["_law_table_here", "_law_shot_here"]) (fun _ _ _ _ _ _ us hl=>by obtain⟨_,_,rfl⟩:=L3.len2 hl; rfl)⟩,QD _ _ _⟩
theorem Qdu (Z:Zk K mg ca):FnH P w K mg base ca "_law_shot" 1 1 QaM:=by
 obtain⟨f,fd,F,hm⟩:=Z.u_L_shot
 exact⟨⟨f,fd,["_law_shot_here"],ZQ F sc_L_shot rfl rfl (fun cdv A outer s H E hr=>(Qc (Qjx (Qb 0) (Qaw rfl (Za (Q0 1 sc_L_shot.nd) (Za (Q0 2 sc_L_shot.nd) (Za (Q0 3 sc_L_shot.nd) Qav)))))
 (Qh (QU (Zv (Qe (Qb 1) (Qe (Qb 2) (Qe (Qcb Z.z_tuple (Qa4 (Yo (Nb:=["_law_spot", "_law_cells"]) (no:=1) (cap:=[3]) (N:=QeY) (sc:=Qd YW) rfl rfl (by decide +kernel)) rfl (JC (QhW Z.z_sorted (Ql1 rfl Z.z_list (Qb 3)))) (fun cl C s3 H3 ex=>⟨(Q0 0 (show List.Nodup (["_law_spot", "_law_cells"]:List Str) by decide +kernel)),Qgl,(Zv (Qe (Qb 0) (Qe (QmK (Qb 1) (Qb 0)) Qk)))⟩))) Qk)))))))),hm,F.kp,F.binds (ps:=["_law_shot_here"]) (fun _ _ _ _ _ _ us hl=>by obtain⟨_,rfl⟩:=L3.len1 hl; rfl)⟩,QD _ _ _⟩
theorem QiH (Z:Zk K mg ca):FnH P w K mg base ca "_law_run" 2 3 QdV:=by
 obtain⟨f,fd,F,hm⟩:=Z.u_L_run
 exact⟨⟨f,fd,["_law_table_here", "_law_shot_here", "_law_steps"],ZQ F sc_L_run rfl rfl (fun cdv A outer s H E hr=>(Qc (QX 3 sc_L_run.nd (Qgc (Qe (Qb 1) Qk)))
 (Qc (Qgf (Qmz (Ym Z.z_len (Qb 3)) (Qb 2)) (Qc (QX 1 sc_L_run.nd (QH (Qhn Z) (hr.mono (by omega)) (Qe (Qb 0) (Qe (Qb 1) Qk))))
 (Qc (r_if (Qgp (Qb 1) QcT) (Qh (QU (Qb 3))) QC)
 (Qh (Yv (Jj (Qb 3) (Qb 1)))))))
 (Qh (QU (Qb 3)))))),hm,F.kp,F.binds (ps:=["_law_table_here", "_law_shot_here", "_law_steps"]) (fun _ _ _ _ _ _ us hl=>by obtain⟨_,_,_,rfl⟩:=L3.len3 hl; rfl)⟩,QD _ _ _⟩
theorem QfJ (Z:Zk K mg ca):FnH P w K mg base ca "_law_begin" 2 4 Qbg:=by
 obtain⟨f,fd,F,hm⟩:=Z.u_L_begin
 exact⟨⟨f,fd,["_law_script", "_law_at", "_law_states", "_law_signs"],ZQ F sc_L_begin rfl rfl (fun cdv A outer s H E hr=>(Qc (QX 4 sc_L_begin.nd (QH (Jf Z) (hr.mono (by omega)) (Qe (Qb 0) (Qe (Qb 1) Qk))))
 (Qc (QX 5 sc_L_begin.nd (Z9 (Qr (Qgc (Qe Qi (Qe Qi (Qe (Qfb Qi) (Qe (Ql2 Qi Qi) (Qe (Qfb (Ql2 Qi Qi)) Qk)))))) (Yl (Qb 4) Qi)) (Yl (Y7 (Qb 4) Qi) Qi)))
 (Qc (QX 6 sc_L_begin.nd QlY)
 (Qc (QdF rfl (QaH Z.z_range (Yl (Y7 (Qb 4) Qi) Qi)) (Q0 7 sc_L_begin.nd) (Qc (QX 8 sc_L_begin.nd (Yl (QH (Jf Z) (hr.mono (by omega)) (Qe (Qb 0) (Qe (Qb 1) Qk))) (Qb 3)))
 (Qh (r_if (QjB (Qb 8) Qi) (Qh (Qi6 (Qb 6) (Qgn (Z9 (Qb 5) (Qb 7)) Qi) (Qb 8))) QC))))
 (Qh (QU (Zv (Qe (Yl (Y7 (Qb 4) Qi) (Qb 2)) (Qe (Qb 5) (Qe (Qb 6) Qk))))))))))),hm,F.kp,F.binds (ps:=["_law_script", "_law_at", "_law_states", "_law_signs"]) (fun _ _ _ _ _ _ us hl=>by obtain⟨_,_,_,_,rfl⟩:=L3.len4 hl; rfl)⟩,QD _ _ _⟩
theorem QfK (Z:Zk K mg ca):FnH P w K mg base ca "_law_wrong" 1 4 JX:=by
 obtain⟨f,fd,F,hm⟩:=Z.u_L_wrong
 exact⟨⟨f,fd,["_law_m", "_law_shot_here", "_law_states", "_law_signs"],ZQ F sc_L_wrong rfl rfl (fun cdv A outer s H E hr=>(Qc (Qjx (Qb 1) (Qaw rfl (Za (Q0 4 sc_L_wrong.nd) (Za (Q0 5 sc_L_wrong.nd) (Za (Q0 6 sc_L_wrong.nd) Qav)))))
 (Qc (QX 7 sc_L_wrong.nd (Qlt Z.z_list (Qb 6)))
 (Qc (r_if (Qae hr (Yl (Qb 0) Qi) Qi) (Qh (QU (Zv (Qe (Z9 (Qb 2) (Yl (Y7 (Qb 0) Qi) Qi)) (Qe (Qb 5) (Qe (Qb 6) Qk)))))) QC)
 (Qc (r_if (Qae hr (Yl (Qb 0) Qi) Qi) (Qh (QU (Zv (Qe (Qfb Qi) (Qe (Qb 5) (Qe (Qb 6) Qk)))))) QC)
 (Qc (QX 8 sc_L_wrong.nd (Z9 (Qb 5) Qi))
 (Qc (r_if (Qae hr (Yl (Qb 0) Qi) Qi) (Qh (QU (Zv (Qe (Qb 4) (Qe (Qb 5) (Qe (Z9 (Qb 6) (Zv (Qe (Zv (Qe (Qb 8) (Qe Qi Qk))) Qk))) Qk)))))) QC)
 (Qc (r_if (Qae hr (Yl (Qb 0) Qi) Qi) (Qh (QU (Zv (Qe (Qb 4) (Qe (Qb 5) (Qe (Z9 (Qb 6) (Zv (Qe (Zv (Qe (Qb 8) (Qe (Qb 3) Qk))) Qk))) Qk)))))) QC)
 (Qc (r_if (Qae hr (Yl (Qb 0) Qi) Qi) (Qh (QU (Zv (Qe (Qb 4) (Qe (Qb 5) (Qe (Z9 (Qb 6) (Zv (Qe (Zv (Qe (Qb 8) (Qe Qi Qk))) (Qe (Zv (Qe (Qb 8) (Qe Qi Qk))) Qk)))) Qk)))))) QC)
 (Qh (QU (Zv (Qe (Qb 4) (Qe (Qb 5) (Qe (Z9 (Z9 (Zv (Qe (Zv (Qe (Z9 (Qb 8) Qi) (Qe Qi Qk))) Qk)) (Qb 6)) (Zv (Qe (Zv (Qe (Qb 8) (Qe Qi Qk))) Qk))) Qk))))))))))))))),hm,F.kp,F.binds (ps:=["_law_m", "_law_shot_here", "_law_states", "_law_signs"]) (fun _ _ _ _ _ _ us hl=>by obtain⟨_,_,_,_,rfl⟩:=L3.len4 hl; rfl)⟩,QD _ _ _⟩
theorem Qdv (Z:Zk K mg ca):FnH P w K mg base ca "_law_refused" 6 2 JK:=by
 obtain⟨f,fd,F,hm⟩:=Z.u_L_refused
 exact⟨⟨f,fd,["_law_machine", "_law_shot_here"],ZQ F sc_L_refused rfl rfl (fun cdv A outer s H E hr=>(Qc (QX 2 sc_L_refused.nd QcT)
 (Qc (QjR 3 sc_L_refused.nd Z.t_TapeError (Qh (Yv (QH (Zc Z) (hr.mono (by omega)) (Qe (Qb 0) (Qe (Qb 1) (Qe Qi Qk)))))) (fun a=>(Qh (QX 2 sc_L_refused.nd (Qb 3)))))
 (Qc (r_if (r_w (QaA (Qgp (Qb 2) QcT) (QaA (Q1 (YC Z.z_isinstance Z.x_NoMachine (Qb 2))) (QaA (Q1 (YC Z.z_isinstance Z.x_NoMove (Qb 2))) (Qau (Q1 (YC Z.z_isinstance Z.x_NoNumber (Qb 2)))))))) (Qh (QU r_bl)) QC)
 (Qc (r_if (r_w (QaA (Q1 (YC Z.z_isinstance Z.x_NoShape (Qb 2))) (QaA (Q1 (YC Z.z_isinstance Z.x_NoNames (Qb 2))) (Qau (Q1 (YC Z.z_isinstance Z.x_NoStretches (Qb 2))))))) (Qh (QU r_bl)) QC)
 (Qc (r_if (r_w (QaA (Q1 (YC Z.z_isinstance Z.x_NoText (Qb 2))) (QaA (Q1 (YC Z.z_isinstance Z.x_NoWidth (Qb 2))) (Qau (Q1 (YC Z.z_isinstance Z.x_TooLong (Qb 2))))))) (Qh (QU r_bl)) QC)
 (Qh (QU (Qa1 (YC Z.z_isinstance Z.x_NoShot (Qb 2)) (Qb6 (QjO Z.z_isinstance Z.z_ValueError Z.x_ValueError (Qb 2)))))))))))),hm,F.kp,F.binds (ps:=["_law_machine", "_law_shot_here"]) (fun _ _ _ _ _ _ us hl=>by obtain⟨_,_,rfl⟩:=L3.len2 hl; rfl)⟩,QD _ _ _⟩
theorem Qmd (Z:Zk K mg ca) {f:Addr} {fd:FuncData} (F:Fun K "law" "law" Qef f fd):FnOk P w K mg base (CXW P w ca) 8 f fd ["_law_script"] (spM K ca 1 Qh8) :=
 ZQ F sc_law rfl rfl (fun cdv A outer s H E hr=>(Qc (QX 1 sc_law.nd (Qgc (Qe Qi Qk)))
 (Qc (QdF rfl (QaH Z.z_range (Z9 Qi (Y7 (Ym Z.z_len (Qgx (Qb 0) Qey (QiU Qi))) Qi))) (Q0 2 sc_law.nd) (Qc (QX 3 sc_law.nd (QH (Jf Z) (hr.mono (by omega)) (Qe (Qb 0) (Qe (Qb 1) Qk))))
 (Qc (QX 4 sc_law.nd (QH (QfI Z) (hr.mono (by omega)) (Qe (Qb 0) (Qe (Qb 1) (Qe (Z9 Qi (Yl (Qb 3) Qi)) (Qe (Z9 Qi (Yl (Y7 (Qb 3) Qi) Qi)) Qk))))))
 (Qc (QX 5 sc_law.nd (QiS (Qbs Z) (hr.mono (by omega)) (Qe (Qb 4) Qk)))
 (Qc (QX 6 sc_law.nd (QH (QfJ Z) (hr.mono (by omega)) (Qe (Qb 0) (Qe (Qb 1) (Qe (Ym Z.z_len (Qb 4)) (Qe (Ym Z.z_len (Qr (Qb 4) Qi)) Qk))))))
 (Qc (QX 7 sc_law.nd (Yl (Y7 (Qb 3) Qi) Qi))
 (Qc (QX 8 sc_law.nd (Yl (Y7 (Qb 3) Qi) Qi))
 (Qc (QX 9 sc_law.nd (QH (QiH Z) (hr.mono (by omega)) (Qe (Qb 4) (Qe (Qb 6) (Qe (Z9 (Qb 7) (Qb 8)) Qk)))))
 (Qc (QX 10 sc_law.nd (Zv (Qe (QH (Qdu Z) (hr.mono (by omega)) (Qe (Qr (Qb 9) (Qgn (Ym Z.z_len (Qb 9)) Qi)) Qk)) (Qe (Qgn (Ym Z.z_len (Qb 9)) Qi) Qk))))
 (Qc (QX 11 sc_law.nd (QH (Qdu Z) (hr.mono (by omega)) (Qe (Qb 6) Qk)))
 (Qc (r_if (Jt (Q1 (QH (Jg Z 6) (hr.mono (by omega)) (Qe (QH (Zc Z) (hr.mono (by omega)) (Qe (Qb 5) (Qe (Qb 11) (Qe (Z9 (Qb 7) (Qb 8)) Qk)))) (Qe (Qb 10) Qk))))) (Qh (QU r_bl)) QC)
 (Qc (QX 12 sc_law.nd (QH (Zc Z) (hr.mono (by omega)) (Qe (Qb 5) (Qe (Qb 11) (Qe (Qb 7) Qk)))))
 (Qc (QX 13 sc_law.nd (QH (Zc Z) (hr.mono (by omega)) (Qe (Qb 5) (Qe (Qr (Qb 12) Qi) (Qe (Qb 8) Qk)))))
 (Qc (r_if (Jt (Q1 (QH (Jg Z 6) (hr.mono (by omega)) (Qe (Zv (Qe (Qr (Qb 13) Qi) (Qe (Z9 (Qr (Qb 12) Qi) (Qr (Qb 13) Qi)) Qk))) (Qe (Qb 10) Qk))))) (Qh (QU r_bl)) QC)
 (Qc (r_if (Jt (Q1 (QH (Jg Z 6) (hr.mono (by omega)) (Qe (QH (Zc Z) (hr.mono (by omega)) (Qe (Qb 5) (Qe (Zv (Qe Qi (Qe Qi (Qe (Zv Qk) Qk)))) (Qe (Qb 7) Qk)))) (Qe (QH (QiG Z) (hr.mono (by omega)) (Qe (Qb 5) (Qe (Qb 7) Qk))) Qk))))) (Qh (QU r_bl)) QC)
 (Qc (r_if (Jt (Q1 (QH (Qdv Z) (hr.mono (by omega)) (Qe (Qb 5) (Qe (QH (QfK Z) (hr.mono (by omega)) (Qe (QH (Jf Z) (hr.mono (by omega)) (Qe (Qb 0) (Qe (Qb 1) Qk))) (Qe (Qb 11) (Qe (Ym Z.z_len (Qb 4)) (Qe (Ym Z.z_len (Qr (Qb 4) Qi)) Qk))))) Qk))))) (Qh (QU r_bl)) QC)
 (Qh (r_if (Jt (Q1 (QH (Jg Z 6) (hr.mono (by omega)) (Qe (QH (Zc Z) (hr.mono (by omega)) (Qe (Qb 5) (Qe (Qb 11) (Qe (Z9 (Qb 7) (Qb 8)) Qk)))) (Qe (Qb 10) Qk))))) (Qh (QU r_bl)) QC))))))))))))))))))
 (Qh (QU r_bl)))))
end
end V
end
section
namespace V
open PySem PySem.Spec PyProof.Rows L2 L3
noncomputable def caOf (l:List Nat) (n:Nat):Addr:=l.getD n 0
theorem z_mk {K:PySem.W.Frag} {h:Heap} {mg:Str->Option Value} (X:K.In h) (G:h.Ns mainGlobals mg) {C0 C1 C2 C3 C4 C5 C6 C7 C8 C9 C10 C11 C12:Addr} {oc1 kV1 dc1 pm1 cd1 ct1:Value} {od1 an1:Option Addr} {sl1:Array (Option Value)} {f1:Addr} {oc2 kV2 dc2 pm2 cd2 ct2:Value} {od2 an2:Option Addr} {sl2:Array (Option Value)} {f2:Addr} {oc3 kV3 dc3 pm3 cd3 ct3:Value} {od3 an3:Option Addr} {sl3:Array (Option Value)} {f3:Addr} {oc4 kV4 dc4 pm4 cd4 ct4:Value} {od4 an4:Option Addr} {sl4:Array (Option Value)} {f4:Addr} {oc5 kV5 dc5 pm5 cd5 ct5:Value} {od5 an5:Option Addr} {sl5:Array (Option Value)} {f5:Addr} {oc6 kV6 dc6 pm6 cd6 ct6:Value} {od6 an6:Option Addr} {sl6:Array (Option Value)} {f6:Addr} {oc7 kV7 dc7 pm7 cd7 ct7:Value} {od7 an7:Option Addr} {sl7:Array (Option Value)} {f7:Addr} {oc8 kV8 dc8 pm8 cd8 ct8:Value} {od8 an8:Option Addr} {sl8:Array (Option Value)} {f8:Addr} {oc9 kV9 dc9 pm9 cd9 ct9:Value} {od9 an9:Option Addr} {sl9:Array (Option Value)} {f9:Addr} {oc10 kV10 dc10 pm10 cd10 ct10:Value} {od10 an10:Option Addr} {sl10:Array (Option Value)} {f10:Addr} {oc11 kV11 dc11 pm11 cd11 ct11:Value} {od11 an11:Option Addr} {sl11:Array (Option Value)} {f11:Addr} {oc12 kV12 dc12 pm12 cd12 ct12:Value} {od12 an12:Option Addr} {sl12:Array (Option Value)} {f12:Addr} {oc13 kV13 dc13 pm13 cd13 ct13:Value} {od13 an13:Option Addr} {sl13:Array (Option Value)} {f13:Addr} {oc14 kV14 dc14 pm14 cd14 ct14:Value} {od14 an14:Option Addr} {sl14:Array (Option Value)} {f14:Addr} {oc15 kV15 dc15 pm15 cd15 ct15:Value} {od15 an15:Option Addr} {sl15:Array (Option Value)} {f15:Addr} {oc16 kV16 dc16 pm16 cd16 ct16:Value} {od16 an16:Option Addr} {sl16:Array (Option Value)} {f16:Addr} {oc17 kV17 dc17 pm17 cd17 ct17:Value} {od17 an17:Option Addr} {sl17:Array (Option Value)} {f17:Addr} {oc18 kV18 dc18 pm18 cd18 ct18:Value} {od18 an18:Option Addr} {sl18:Array (Option Value)} {f18:Addr} {oc19 kV19 dc19 pm19 cd19 ct19:Value} {od19 an19:Option Addr} {sl19:Array (Option Value)} {f19:Addr} {oc20 kV20 dc20 pm20 cd20 ct20:Value} {od20 an20:Option Addr} {sl20:Array (Option Value)} {f20:Addr} {oc21 kV21 dc21 pm21 cd21 ct21:Value} {od21 an21:Option Addr} {sl21:Array (Option Value)} {f21:Addr} {oc22 kV22 dc22 pm22 cd22 ct22:Value} {od22 an22:Option Addr} {sl22:Array (Option Value)} {f22:Addr} {oc23 kV23 dc23 pm23 cd23 ct23:Value} {od23 an23:Option Addr} {sl23:Array (Option Value)} {f23:Addr} {oc24 kV24 dc24 pm24 cd24 ct24:Value} {od24 an24:Option Addr} {sl24:Array (Option Value)} {f24:Addr} {oc25 kV25 dc25 pm25 cd25 ct25:Value} {od25 an25:Option Addr} {sl25:Array (Option Value)} {f25:Addr} {oc26 kV26 dc26 pm26 cd26 ct26:Value} {od26 an26:Option Addr} {sl26:Array (Option Value)} {f26:Addr} {oc27 kV27 dc27 pm27 cd27 ct27:Value} {od27 an27:Option Addr} {sl27:Array (Option Value)} {f27:Addr} {oc28 kV28 dc28 pm28 cd28 ct28:Value} {od28 an28:Option Addr} {sl28:Array (Option Value)} {f28:Addr} {oc29 kV29 dc29 pm29 cd29 ct29:Value} {od29 an29:Option Addr} {sl29:Array (Option Value)} {f29:Addr} {og_BLANK:_} {og_FIRST_SHOT:Addr} {og_LEFT:_} {og_RIGHT:_}
    (c0:PySem.W.nsIn K mainGlobals "TapeError" = some (some (.ref C0)))
    (c1:PySem.W.nsIn K mainGlobals "NoMachine" = some (some (.ref C1)))
    (c2:PySem.W.nsIn K mainGlobals "NoNames" = some (some (.ref C2)))
    (c3:PySem.W.nsIn K mainGlobals "NoNumber" = some (some (.ref C3)))
    (c4:PySem.W.nsIn K mainGlobals "NoShot" = some (some (.ref C4)))
    (c5:PySem.W.nsIn K mainGlobals "NoStretches" = some (some (.ref C5)))
    (c6:PySem.W.nsIn K mainGlobals "TooLong" = some (some (.ref C6)))
    (c7:PySem.W.nsIn K mainGlobals "NoShape" = some (some (.ref C7)))
    (c8:PySem.W.nsIn K mainGlobals "NoMove" = some (some (.ref C8)))
    (c9:PySem.W.nsIn K mainGlobals "NoWidth" = some (some (.ref C9)))
    (c10:PySem.W.nsIn K mainGlobals "NoText" = some (some (.ref C10)))
    (c11:PySem.W.nsIn K mainGlobals "Machine" = some (some (.ref C11)))
    (c12:PySem.W.nsIn K mainGlobals "Walk" = some (some (.ref C12)))
    (a1:PySem.W.nsIn K mainGlobals "is_whole" = some (some (.ref f1)))
    (l1:K.lookup f1=some ⟨oc1,od1,.func (PySem.W.fnOf "is_whole" "is_whole" (Qv Yd) (Qt Yd) (Qd Yd) .none kV1 dc1 pm1 an1 cd1 ct1),sl1⟩)
    (d1:PySem.W.codeIn K cd1 "is_whole" = true)
    (k1:PySem.W.keepIn K (.ref f1)=true)
    (a2:PySem.W.nsIn K mainGlobals "is_below" = some (some (.ref f2)))
    (l2:K.lookup f2=some ⟨oc2,od2,.func (PySem.W.fnOf "is_below" "is_below" (Qv Ye) (Qt Ye) (Qd Ye) .none kV2 dc2 pm2 an2 cd2 ct2),sl2⟩)
    (d2:PySem.W.codeIn K cd2 "is_below" = true)
    (k2:PySem.W.keepIn K (.ref f2)=true)
    (a3:PySem.W.nsIn K mainGlobals "is_entry" = some (some (.ref f3)))
    (l3:K.lookup f3=some ⟨oc3,od3,.func (PySem.W.fnOf "is_entry" "is_entry" (Qv Yf) (Qt Yf) (Qd Yf) .none kV3 dc3 pm3 an3 cd3 ct3),sl3⟩)
    (d3:PySem.W.codeIn K cd3 "is_entry" = true)
    (k3:PySem.W.keepIn K (.ref f3)=true)
    (a4:PySem.W.nsIn K mainGlobals "check_rows" = some (some (.ref f4)))
    (l4:K.lookup f4=some ⟨oc4,od4,.func (PySem.W.fnOf "check_rows" "check_rows" (Qv Zq) (Qt Zq) (Qd Zq) .none kV4 dc4 pm4 an4 cd4 ct4),sl4⟩)
    (d4:PySem.W.codeIn K cd4 "check_rows" = true)
    (k4:PySem.W.keepIn K (.ref f4)=true)
    (a5:PySem.W.findIn K (.ref C11) "__init__" = some (some (.ref f5)))
    (l5:K.lookup f5=some ⟨oc5,od5,.func (PySem.W.fnOf "__init__" "Machine.__init__" (Qv QZ) (Qt QZ) (Qd QZ) .none kV5 dc5 pm5 an5 cd5 ct5),sl5⟩)
    (d5:PySem.W.codeIn K cd5 "Machine.__init__" = true)
    (k5:PySem.W.keepIn K (.ref f5)=true)
    (i5:PySem.W.isFn K (.ref f5)=true)
    (m5:PySem.W.makesIn K C11=true)
    (q5:PySem.W.keepIn K (.ref C11)=true)
    (a6:PySem.W.nsIn K mainGlobals "states_of" = some (some (.ref f6)))
    (l6:K.lookup f6=some ⟨oc6,od6,.func (PySem.W.fnOf "states_of" "states_of" (Qv ZW) (Qt ZW) (Qd ZW) .none kV6 dc6 pm6 an6 cd6 ct6),sl6⟩)
    (d6:PySem.W.codeIn K cd6 "states_of" = true)
    (k6:PySem.W.keepIn K (.ref f6)=true)
    (a7:PySem.W.nsIn K mainGlobals "signs_of" = some (some (.ref f7)))
    (l7:K.lookup f7=some ⟨oc7,od7,.func (PySem.W.fnOf "signs_of" "signs_of" (Qv Yg) (Qt Yg) (Qd Yg) .none kV7 dc7 pm7 an7 cd7 ct7),sl7⟩)
    (d7:PySem.W.codeIn K cd7 "signs_of" = true)
    (k7:PySem.W.keepIn K (.ref f7)=true)
    (a8:PySem.W.findIn K (.ref C12) "__init__" = some (some (.ref f8)))
    (l8:K.lookup f8=some ⟨oc8,od8,.func (PySem.W.fnOf "__init__" "Walk.__init__" (Qv Zr) (Qt Zr) (Qd Zr) .none kV8 dc8 pm8 an8 cd8 ct8),sl8⟩)
    (d8:PySem.W.codeIn K cd8 "Walk.__init__" = true)
    (k8:PySem.W.keepIn K (.ref f8)=true)
    (i8:PySem.W.isFn K (.ref f8)=true)
    (m8:PySem.W.makesIn K C12=true)
    (q8:PySem.W.keepIn K (.ref C12)=true)
    (a9:PySem.W.findIn K (.ref C12) "is_on_mark" = some (some (.ref f9)))
    (l9:K.lookup f9=some ⟨oc9,od9,.func (PySem.W.fnOf "is_on_mark" "Walk.is_on_mark" (Qv QP) (Qt QP) (Qd QP) .none kV9 dc9 pm9 an9 cd9 ct9),sl9⟩)
    (d9:PySem.W.codeIn K cd9 "Walk.is_on_mark" = true)
    (k9:PySem.W.keepIn K (.ref f9)=true)
    (i9:PySem.W.isFn K (.ref f9)=true)
    (w9:clsB K C12=true)
    (a10:PySem.W.findIn K (.ref C12) "entry" = some (some (.ref f10)))
    (l10:K.lookup f10=some ⟨oc10,od10,.func (PySem.W.fnOf "entry" "Walk.entry" (Qv ZH) (Qt ZH) (Qd ZH) .none kV10 dc10 pm10 an10 cd10 ct10),sl10⟩)
    (d10:PySem.W.codeIn K cd10 "Walk.entry" = true)
    (k10:PySem.W.keepIn K (.ref f10)=true)
    (i10:PySem.W.isFn K (.ref f10)=true)
    (w10:clsB K C12=true)
    (a11:PySem.W.findIn K (.ref C12) "write" = some (some (.ref f11)))
    (l11:K.lookup f11=some ⟨oc11,od11,.func (PySem.W.fnOf "write" "Walk.write" (Qv ZI) (Qt ZI) (Qd ZI) .none kV11 dc11 pm11 an11 cd11 ct11),sl11⟩)
    (d11:PySem.W.codeIn K cd11 "Walk.write" = true)
    (k11:PySem.W.keepIn K (.ref f11)=true)
    (i11:PySem.W.isFn K (.ref f11)=true)
    (w11:clsB K C12=true)
    (a12:PySem.W.findIn K (.ref C12) "go_right" = some (some (.ref f12)))
    (l12:K.lookup f12=some ⟨oc12,od12,.func (PySem.W.fnOf "go_right" "Walk.go_right" (Qv Q6) (Qt Q6) (Qd Q6) .none kV12 dc12 pm12 an12 cd12 ct12),sl12⟩)
    (d12:PySem.W.codeIn K cd12 "Walk.go_right" = true)
    (k12:PySem.W.keepIn K (.ref f12)=true)
    (i12:PySem.W.isFn K (.ref f12)=true)
    (w12:clsB K C12=true)
    (a13:PySem.W.findIn K (.ref C12) "go_left" = some (some (.ref f13)))
    (l13:K.lookup f13=some ⟨oc13,od13,.func (PySem.W.fnOf "go_left" "Walk.go_left" (Qv Ze) (Qt Ze) (Qd Ze) .none kV13 dc13 pm13 an13 cd13 ct13),sl13⟩)
    (d13:PySem.W.codeIn K cd13 "Walk.go_left" = true)
    (k13:PySem.W.keepIn K (.ref f13)=true)
    (i13:PySem.W.isFn K (.ref f13)=true)
    (w13:clsB K C12=true)
    (a14:PySem.W.findIn K (.ref C12) "stepped" = some (some (.ref f14)))
    (l14:K.lookup f14=some ⟨oc14,od14,.func (PySem.W.fnOf "stepped" "Walk.stepped" (Qv Zf) (Qt Zf) (Qd Zf) .none kV14 dc14 pm14 an14 cd14 ct14),sl14⟩)
    (d14:PySem.W.codeIn K cd14 "Walk.stepped" = true)
    (k14:PySem.W.keepIn K (.ref f14)=true)
    (i14:PySem.W.isFn K (.ref f14)=true)
    (w14:clsB K C12=true)
    (a15:PySem.W.findIn K (.ref C12) "run" = some (some (.ref f15)))
    (l15:K.lookup f15=some ⟨oc15,od15,.func (PySem.W.fnOf "run" "Walk.run" (Qv Yh) (Qt Yh) (Qd Yh) .none kV15 dc15 pm15 an15 cd15 ct15),sl15⟩)
    (d15:PySem.W.codeIn K cd15 "Walk.run" = true)
    (k15:PySem.W.keepIn K (.ref f15)=true)
    (i15:PySem.W.isFn K (.ref f15)=true)
    (w15:clsB K C12=true)
    (a16:PySem.W.findIn K (.ref C12) "shot" = some (some (.ref f16)))
    (l16:K.lookup f16=some ⟨oc16,od16,.func (PySem.W.fnOf "shot" "Walk.shot" (Qv ZX) (Qt ZX) (Qd ZX) .none kV16 dc16 pm16 an16 cd16 ct16),sl16⟩)
    (d16:PySem.W.codeIn K cd16 "Walk.shot" = true)
    (k16:PySem.W.keepIn K (.ref f16)=true)
    (i16:PySem.W.isFn K (.ref f16)=true)
    (w16:clsB K C12=true)
    (a17:PySem.W.nsIn K mainGlobals "check_shot" = some (some (.ref f17)))
    (l17:K.lookup f17=some ⟨oc17,od17,.func (PySem.W.fnOf "check_shot" "check_shot" (Qv ZJ) (Qt ZJ) (Qd ZJ) .none kV17 dc17 pm17 an17 cd17 ct17),sl17⟩)
    (d17:PySem.W.codeIn K cd17 "check_shot" = true)
    (k17:PySem.W.keepIn K (.ref f17)=true)
    (a18:PySem.W.nsIn K mainGlobals "after_from" = some (some (.ref f18)))
    (l18:K.lookup f18=some ⟨oc18,od18,.func (PySem.W.fnOf "after_from" "after_from" (Qv ZK) (Qt ZK) (Qd ZK) .none kV18 dc18 pm18 an18 cd18 ct18),sl18⟩)
    (d18:PySem.W.codeIn K cd18 "after_from" = true)
    (k18:PySem.W.keepIn K (.ref f18)=true)
    (a19:PySem.W.nsIn K mainGlobals "after" = some (some (.ref f19)))
    (l19:K.lookup f19=some ⟨oc19,od19,.func (PySem.W.fnOf "after" "after" (Qv Qaq) (Qt Qaq) (Qd Qaq) .none kV19 dc19 pm19 an19 cd19 ct19),sl19⟩)
    (d19:PySem.W.codeIn K cd19 "after" = true)
    (k19:PySem.W.keepIn K (.ref f19)=true)
    (a20:PySem.W.nsIn K mainGlobals "_law_next" = some (some (.ref f20)))
    (l20:K.lookup f20=some ⟨oc20,od20,.func (PySem.W.fnOf "_law_next" "_law_next" (Qv Jq) (Qt Jq) (Qd Jq) .none kV20 dc20 pm20 an20 cd20 ct20),sl20⟩)
    (d20:PySem.W.codeIn K cd20 "_law_next" = true)
    (k20:PySem.W.keepIn K (.ref f20)=true)
    (a21:PySem.W.nsIn K mainGlobals "_law_same" = some (some (.ref f21)))
    (l21:K.lookup f21=some ⟨oc21,od21,.func (PySem.W.fnOf "_law_same" "_law_same" (Qv YA) (Qt YA) (Qd YA) .none kV21 dc21 pm21 an21 cd21 ct21),sl21⟩)
    (d21:PySem.W.codeIn K cd21 "_law_same" = true)
    (k21:PySem.W.keepIn K (.ref f21)=true)
    (a22:PySem.W.nsIn K mainGlobals "_law_table" = some (some (.ref f22)))
    (l22:K.lookup f22=some ⟨oc22,od22,.func (PySem.W.fnOf "_law_table" "_law_table" (Qv YN) (Qt YN) (Qd YN) .none kV22 dc22 pm22 an22 cd22 ct22),sl22⟩)
    (d22:PySem.W.codeIn K cd22 "_law_table" = true)
    (k22:PySem.W.keepIn K (.ref f22)=true)
    (a23:PySem.W.nsIn K mainGlobals "_law_step" = some (some (.ref f23)))
    (l23:K.lookup f23=some ⟨oc23,od23,.func (PySem.W.fnOf "_law_step" "_law_step" (Qv Jr) (Qt Jr) (Qd Jr) .none kV23 dc23 pm23 an23 cd23 ct23),sl23⟩)
    (d23:PySem.W.codeIn K cd23 "_law_step" = true)
    (k23:PySem.W.keepIn K (.ref f23)=true)
    (a24:PySem.W.nsIn K mainGlobals "_law_shot" = some (some (.ref f24)))
    (l24:K.lookup f24=some ⟨oc24,od24,.func (PySem.W.fnOf "_law_shot" "_law_shot" (Qv YW) (Qt YW) (Qd YW) .none kV24 dc24 pm24 an24 cd24 ct24),sl24⟩)
    (d24:PySem.W.codeIn K cd24 "_law_shot" = true)
    (k24:PySem.W.keepIn K (.ref f24)=true)
    (a25:PySem.W.nsIn K mainGlobals "_law_run" = some (some (.ref f25)))
    (l25:K.lookup f25=some ⟨oc25,od25,.func (PySem.W.fnOf "_law_run" "_law_run" (Qv Qar) (Qt Qar) (Qd Qar) .none kV25 dc25 pm25 an25 cd25 ct25),sl25⟩)
    (d25:PySem.W.codeIn K cd25 "_law_run" = true)
    (k25:PySem.W.keepIn K (.ref f25)=true)
    (a26:PySem.W.nsIn K mainGlobals "_law_begin" = some (some (.ref f26)))
    (l26:K.lookup f26=some ⟨oc26,od26,.func (PySem.W.fnOf "_law_begin" "_law_begin" (Qv YO) (Qt YO) (Qd YO) .none kV26 dc26 pm26 an26 cd26 ct26),sl26⟩)
    (d26:PySem.W.codeIn K cd26 "_law_begin" = true)
    (k26:PySem.W.keepIn K (.ref f26)=true)
    (a27:PySem.W.nsIn K mainGlobals "_law_wrong" = some (some (.ref f27)))
    (l27:K.lookup f27=some ⟨oc27,od27,.func (PySem.W.fnOf "_law_wrong" "_law_wrong" (Qv YQ) (Qt YQ) (Qd YQ) .none kV27 dc27 pm27 an27 cd27 ct27),sl27⟩)
    (d27:PySem.W.codeIn K cd27 "_law_wrong" = true)
    (k27:PySem.W.keepIn K (.ref f27)=true)
    (a28:PySem.W.nsIn K mainGlobals "_law_refused" = some (some (.ref f28)))
    (l28:K.lookup f28=some ⟨oc28,od28,.func (PySem.W.fnOf "_law_refused" "_law_refused" (Qv ZY) (Qt ZY) (Qd ZY) .none kV28 dc28 pm28 an28 cd28 ct28),sl28⟩)
    (d28:PySem.W.codeIn K cd28 "_law_refused" = true)
    (k28:PySem.W.keepIn K (.ref f28)=true)
    (a29:PySem.W.nsIn K mainGlobals "law" = some (some (.ref f29)))
    (l29:K.lookup f29=some ⟨oc29,od29,.func (PySem.W.fnOf "law" "law" (Qv Qef) (Qt Qef) (Qd Qef) .none kV29 dc29 pm29 an29 cd29 ct29),sl29⟩)
    (d29:PySem.W.codeIn K cd29 "law" = true)
    (k29:PySem.W.keepIn K (.ref f29)=true)
    (nz_ValueError:PySem.W.nsIn K mainGlobals "ValueError" = some none)
    (nz_all:PySem.W.nsIn K mainGlobals "all" = some none)
    (nz_bool:PySem.W.nsIn K mainGlobals "bool" = some none)
    (nz_dict:PySem.W.nsIn K mainGlobals "dict" = some none)
    (nz_int:PySem.W.nsIn K mainGlobals "int" = some none)
    (nz_isinstance:PySem.W.nsIn K mainGlobals "isinstance" = some none)
    (nz_len:PySem.W.nsIn K mainGlobals "len" = some none)
    (nz_list:PySem.W.nsIn K mainGlobals "list" = some none)
    (nz_range:PySem.W.nsIn K mainGlobals "range" = some none)
    (nz_reversed:PySem.W.nsIn K mainGlobals "reversed" = some none)
    (nz_sorted:PySem.W.nsIn K mainGlobals "sorted" = some none)
    (nz_str:PySem.W.nsIn K mainGlobals "str" = some none)
    (nz_tuple:PySem.W.nsIn K mainGlobals "tuple" = some none)
    (nz_zip:PySem.W.nsIn K mainGlobals "zip" = some none)
    (ng_BLANK:PySem.W.nsIn K mainGlobals "BLANK" = some (some (.int 0 og_BLANK)))
    (ng_FIRST_SHOT:PySem.W.nsIn K mainGlobals "FIRST_SHOT" = some (some (.ref og_FIRST_SHOT)))
    (mg_FIRST_SHOT:datB K 9 (.ref og_FIRST_SHOT) (.tup [(.int 0),(.int 0),(.tup [])])=true)
    (ng_LEFT:PySem.W.nsIn K mainGlobals "LEFT" = some (some (.str (Str.ofString "l") og_LEFT)))
    (ng_RIGHT:PySem.W.nsIn K mainGlobals "RIGHT" = some (some (.str (Str.ofString "r") og_RIGHT)))
    (nt_TapeError:catB K (caOf [C0,C1,C2,C3,C4,C5,C6,C7,C8,C9,C10,C11,C12]) C0 [0,1,2,3,4,5,6,7,8,9,10] []=true)
    (nx_NoMachine:isxB K (caOf [C0,C1,C2,C3,C4,C5,C6,C7,C8,C9,C10,C11,C12]) (.ref C1) [0,1,2,3,4,5,6,7,8,9,10] [1]=true)
    (nx_NoMove:isxB K (caOf [C0,C1,C2,C3,C4,C5,C6,C7,C8,C9,C10,C11,C12]) (.ref C8) [0,1,2,3,4,5,6,7,8,9,10] [8]=true)
    (nx_NoNames:isxB K (caOf [C0,C1,C2,C3,C4,C5,C6,C7,C8,C9,C10,C11,C12]) (.ref C2) [0,1,2,3,4,5,6,7,8,9,10] [2]=true)
    (nx_NoNumber:isxB K (caOf [C0,C1,C2,C3,C4,C5,C6,C7,C8,C9,C10,C11,C12]) (.ref C3) [0,1,2,3,4,5,6,7,8,9,10] [3]=true)
    (nx_NoShape:isxB K (caOf [C0,C1,C2,C3,C4,C5,C6,C7,C8,C9,C10,C11,C12]) (.ref C7) [0,1,2,3,4,5,6,7,8,9,10] [7]=true)
    (nx_NoShot:isxB K (caOf [C0,C1,C2,C3,C4,C5,C6,C7,C8,C9,C10,C11,C12]) (.ref C4) [0,1,2,3,4,5,6,7,8,9,10] [4]=true)
    (nx_NoStretches:isxB K (caOf [C0,C1,C2,C3,C4,C5,C6,C7,C8,C9,C10,C11,C12]) (.ref C5) [0,1,2,3,4,5,6,7,8,9,10] [5]=true)
    (nx_NoText:isxB K (caOf [C0,C1,C2,C3,C4,C5,C6,C7,C8,C9,C10,C11,C12]) (.ref C10) [0,1,2,3,4,5,6,7,8,9,10] [10]=true)
    (nx_NoWidth:isxB K (caOf [C0,C1,C2,C3,C4,C5,C6,C7,C8,C9,C10,C11,C12]) (.ref C9) [0,1,2,3,4,5,6,7,8,9,10] [9]=true)
    (nx_TooLong:isxB K (caOf [C0,C1,C2,C3,C4,C5,C6,C7,C8,C9,C10,C11,C12]) (.ref C6) [0,1,2,3,4,5,6,7,8,9,10] [6]=true)
    (nx_ValueError:isxB K (caOf [C0,C1,C2,C3,C4,C5,C6,C7,C8,C9,C10,C11,C12]) (.type "ValueError") [0,1,2,3,4,5,6,7,8,9,10] [0,1,2,3,4,5,6,7,8,9,10]=true)
    (ne_NoShot:PySem.W.excIn K C4 bmV "ValueError.__new__" = true)
    (na_left_marks:fldB K (caOf [C0,C1,C2,C3,C4,C5,C6,C7,C8,C9,C10,C11,C12]) [12] "left_marks" = true)
    (na_place:fldB K (caOf [C0,C1,C2,C3,C4,C5,C6,C7,C8,C9,C10,C11,C12]) [12] "place" = true)
    (na_right_marks:fldB K (caOf [C0,C1,C2,C3,C4,C5,C6,C7,C8,C9,C10,C11,C12]) [12] "right_marks" = true)
    (na_state:fldB K (caOf [C0,C1,C2,C3,C4,C5,C6,C7,C8,C9,C10,C11,C12]) [12] "state" = true)
    (na_table:fldB K (caOf [C0,C1,C2,C3,C4,C5,C6,C7,C8,C9,C10,C11,C12]) [11,12] "table" = true):Zk K mg (caOf [C0,C1,C2,C3,C4,C5,C6,C7,C8,C9,C10,C11,C12]) :=
  ⟨PySem.W.mg_none_of X G nz_ValueError,
   PySem.W.mg_none_of X G nz_all,
   PySem.W.mg_none_of X G nz_bool,
   PySem.W.mg_none_of X G nz_dict,
   PySem.W.mg_none_of X G nz_int,
   PySem.W.mg_none_of X G nz_isinstance,
   PySem.W.mg_none_of X G nz_len,
   PySem.W.mg_none_of X G nz_list,
   PySem.W.mg_none_of X G nz_range,
   PySem.W.mg_none_of X G nz_reversed,
   PySem.W.mg_none_of X G nz_sorted,
   PySem.W.mg_none_of X G nz_str,
   PySem.W.mg_none_of X G nz_tuple,
   PySem.W.mg_none_of X G nz_zip,
   ⟨_,PySem.W.mg_of X G ng_BLANK⟩,
   (Qi5 9 _ _ mg_FIRST_SHOT).elim fun v h=>⟨_,v,PySem.W.mg_of X G ng_FIRST_SHOT,h.1,h.2⟩,
   ⟨_,PySem.W.mg_of X G ng_LEFT⟩,
   ⟨_,PySem.W.mg_of X G ng_RIGHT⟩,
   ⟨PySem.W.mg_of X G c0,QlC nt_TapeError⟩,
   ⟨PySem.W.mg_of X G c1,Y9 nx_NoMachine⟩,
   ⟨PySem.W.mg_of X G c8,Y9 nx_NoMove⟩,
   ⟨PySem.W.mg_of X G c2,Y9 nx_NoNames⟩,
   ⟨PySem.W.mg_of X G c3,Y9 nx_NoNumber⟩,
   ⟨PySem.W.mg_of X G c7,Y9 nx_NoShape⟩,
   ⟨PySem.W.mg_of X G c4,Y9 nx_NoShot⟩,
   ⟨PySem.W.mg_of X G c5,Y9 nx_NoStretches⟩,
   ⟨PySem.W.mg_of X G c10,Y9 nx_NoText⟩,
   ⟨PySem.W.mg_of X G c9,Y9 nx_NoWidth⟩,
   ⟨PySem.W.mg_of X G c6,Y9 nx_TooLong⟩,
   ⟨Qcf,Y9 nx_ValueError⟩,
   ⟨PySem.W.mg_of X G c4,ne_NoShot⟩,
   QcY na_left_marks,
   QcY na_place,
   QcY na_right_marks,
   QcY na_state,
   QcY na_table,
   ⟨f1,_,QV (st:=Yd) l1 d1 k1,PySem.W.mg_of X G a1⟩,
   ⟨f2,_,QV (st:=Ye) l2 d2 k2,PySem.W.mg_of X G a2⟩,
   ⟨f3,_,QV (st:=Yf) l3 d3 k3,PySem.W.mg_of X G a3⟩,
   ⟨f4,_,QV (st:=Zq) l4 d4 k4,PySem.W.mg_of X G a4⟩,
   ⟨f5,_,QV (st:=QZ) l5 d5 k5,⟨m5,a5,i5,q5⟩,PySem.W.mg_of X G c11⟩,
   ⟨f6,_,QV (st:=ZW) l6 d6 k6,PySem.W.mg_of X G a6⟩,
   ⟨f7,_,QV (st:=Yg) l7 d7 k7,PySem.W.mg_of X G a7⟩,
   ⟨f8,_,QV (st:=Zr) l8 d8 k8,⟨m8,a8,i8,q8⟩,PySem.W.mg_of X G c12⟩,
   ⟨f9,_,QV (st:=QP) l9 d9 k9,⟨a9,i9,k9⟩,JT w9⟩,
   ⟨f10,_,QV (st:=ZH) l10 d10 k10,⟨a10,i10,k10⟩,JT w10⟩,
   ⟨f11,_,QV (st:=ZI) l11 d11 k11,⟨a11,i11,k11⟩,JT w11⟩,
   ⟨f12,_,QV (st:=Q6) l12 d12 k12,⟨a12,i12,k12⟩,JT w12⟩,
   ⟨f13,_,QV (st:=Ze) l13 d13 k13,⟨a13,i13,k13⟩,JT w13⟩,
   ⟨f14,_,QV (st:=Zf) l14 d14 k14,⟨a14,i14,k14⟩,JT w14⟩,
   ⟨f15,_,QV (st:=Yh) l15 d15 k15,⟨a15,i15,k15⟩,JT w15⟩,
   ⟨f16,_,QV (st:=ZX) l16 d16 k16,⟨a16,i16,k16⟩,JT w16⟩,
   ⟨f17,_,QV (st:=ZJ) l17 d17 k17,PySem.W.mg_of X G a17⟩,
   ⟨f18,_,QV (st:=ZK) l18 d18 k18,PySem.W.mg_of X G a18⟩,
   ⟨f19,_,QV (st:=Qaq) l19 d19 k19,PySem.W.mg_of X G a19⟩,
   ⟨f20,_,QV (st:=Jq) l20 d20 k20,PySem.W.mg_of X G a20⟩,
   ⟨f21,_,QV (st:=YA) l21 d21 k21,PySem.W.mg_of X G a21⟩,
   ⟨f22,_,QV (st:=YN) l22 d22 k22,PySem.W.mg_of X G a22⟩,
   ⟨f23,_,QV (st:=Jr) l23 d23 k23,PySem.W.mg_of X G a23⟩,
   ⟨f24,_,QV (st:=YW) l24 d24 k24,PySem.W.mg_of X G a24⟩,
   ⟨f25,_,QV (st:=Qar) l25 d25 k25,PySem.W.mg_of X G a25⟩,
   ⟨f26,_,QV (st:=YO) l26 d26 k26,PySem.W.mg_of X G a26⟩,
   ⟨f27,_,QV (st:=YQ) l27 d27 k27,PySem.W.mg_of X G a27⟩,
   ⟨f28,_,QV (st:=ZY) l28 d28 k28,PySem.W.mg_of X G a28⟩,
   ⟨f29,_,QV (st:=Qef) l29 d29 k29,PySem.W.mg_of X G a29⟩⟩
theorem walk {l:PySem.W.OpenLaw} {p:Program} {loose:List Str} {XP:(Str->Option Value)->Heap->Prop} {YP:World->Heap->Prop} {d:DefRec} {K:Params->PySem.W.Frag} (C:List Nat) (hn:l.most=some 63) (hdf:d.params.defaults=[]) (hd:d.name = "law")
  (hY:∀(w:World) (h:Heap),YP w h->(K w.params).In h) (F:∀(w:World) (mg:Str->Option Value) (h:Heap),(K w.params).In h->h.Ns mainGlobals mg->Zk (K w.params) mg (caOf C))
  (M:∀ ns:List Int,ns.length≤63->∃ g',Qh8 [.fl (ns.map D.int)] []=.ok (.bl true) g'):PySem.W.WalkO p loose XP YP l.row.toRowW d [] (fun f vs=>PySem.call f vs):=by
 refine L2.walk_of (n:=63) (k:=8) (x:="_law_script") (CX:=fun w=>CXW l.prog w (caOf C)) (sp:=fun w=>spM (K w.params) (caOf C) 1 Qh8) hn (by decide) hdf ⟨rfl,by decide,by decide⟩ hY (fun w mg fa h KX G hmg=>?_) (fun w H a ns hl hO hS=>QlD hO hS (M ns hl)) (fun w H s e s' z=>?_)
 ·have Z:=F w mg h KX G
  obtain⟨f,fd,Fu,hm⟩:=Z.u_law
  rw [hd] at hmg
  have e:=hmg.symm.trans hm
  cases e
  refine⟨fd,fun s u=>?_,fun base _ _=>Qmd Z Fu⟩
  obtain⟨oc,od,kV,doc,pm,an,cdv,ct,osl,rfl,lk,hcd⟩:=Fu.ex
  exact .of_eq rfl
 ·obtain⟨_,_,_,_,_,_,_,_,_,_,z⟩:=z
  exact z
end V
end
section
namespace V
open PySem PySem.W PySem.W.X PySem.Spec PyProof.Rows
theorem walkX_of {as:List Addr} {K:Params->Frag} {n t:Nat} {q:Program} {loose:List Str} {XP:(Str->Option Value)->Heap->Prop} {r:RowW} {d:DefRec} {kwd:List (Str×PySem.Expr)} {run:Value->List Value->Sem Value}
  (e:∀ P,as=(K P).map (·.1)) (h:WalkO q loose XP (InK K) r d kwd run):WalkX q loose XP (obsZ as) (valZ K n t) r d kwd run :=
 fun w s₀ s₁ mg mb G y a o pm cd doc dV kV h1 h2 h3 h4 h5 h6 args vals as' L p1 p2 p3 p4 p5 =>
  h w s₀ s₁ mg mb G (InK.keeps w _ _ (z_facts e y).2.1 L.keeps) a o pm cd doc dV kV h1 h2 h3 h4 h5 h6 args vals as' p1 p2 p3 p4 p5
end V
end
noncomputable def PySem.W.Fast.tw2730894198307363465 : PySem.Program := PySem.Challenge.pw_tapeproof_k07_from_any_shot
theorem PySem.W.Fast.te2730894198307363465 : PySem.Challenge.pw_tapeproof_k07_from_any_shot = PySem.W.Fast.tw2730894198307363465 := rfl
def PySem.W.Fast.tw1416760837105792325 : Unit := ()
def PySem.W.Fast.tw6952679236550663662 : Unit := ()
def PySem.W.Fast.tw4363652566881555247 : Unit := ()
def PySem.W.Fast.tw3293600848287484094 : Unit := ()
def PySem.W.Fast.tw9030774848985074334 : Unit := ()
def PySem.W.Fast.tw13970274115274534244 : Unit := ()
def PySem.W.Fast.tw5948579374849597039 : Unit := ()
def PySem.W.Fast.tw17928750004309779103 : Unit := ()
def PySem.W.Fast.tw4507917219118579366 : Unit := ()
def PySem.W.Fast.tw1335393014983157478 : Unit := ()
def PySem.W.Fast.tw3168258857557168015 : Unit := ()
def PySem.W.Fast.tw976616609984165081 : Unit := ()
def PySem.W.Fast.tw2259502313476552064 : Unit := ()
def PySem.W.Fast.tw3950090391457847770 : Unit := ()
def PySem.W.Fast.tw7218514032356000351 : Unit := ()
def PySem.W.Fast.tw14227353686485839343 : Unit := ()
def PySem.W.Fast.tw14692803624101145830 : Unit := ()
def PySem.W.Fast.tw1188542189445327043 : Unit := ()
def PySem.W.Fast.tw12423965284883203461 : Unit := ()
def PySem.W.Fast.tw1190255209775154550 : Unit := ()
def PySem.W.Fast.tw3779283485945966033 : Unit := ()
def PySem.W.Fast.tw13405429134987023776 : Unit := ()
def PySem.W.Fast.tw18312615342155984361 : Unit := ()
def PySem.W.Fast.tw1715994576358261592 : Unit := ()
def PySem.W.Fast.tw14660109810621337877 : Unit := ()
def PySem.W.Fast.tw7160810450059475672 : Unit := ()
def PySem.W.Fast.tw1809892516836882479 : Unit := ()
def PySem.W.Fast.tw3838905215576615454 : Unit := ()
def PySem.W.Fast.tw12625577790078140847 : Unit := ()
def PySem.W.Fast.tw15756148396982317476 : Unit := ()
def PySem.W.Fast.tw13780655983468139213 : Unit := ()
def PySem.W.Fast.tw3822345384353916214 : Unit := ()
def PySem.W.Fast.tw7502605098873450206 : Unit := ()
def PySem.W.Fast.tw11613931417115656742 : Unit := ()
def PySem.W.Fast.tw3285315065928863900 : Unit := ()
def PySem.W.Fast.tw11563770877561596183 : Unit := ()
def PySem.W.Fast.tw5140043538580846416 : Unit := ()
def PySem.W.Fast.tw17762800724419597142 : Unit := ()
def PySem.W.Fast.tw5690425796253910941 : Unit := ()
def PySem.W.Fast.tw484119782666273549 : Unit := ()
def PySem.W.Fast.tw10084395298195527396 : Unit := ()
def PySem.W.Fast.tw9526207004767937451 : Unit := ()
def PySem.W.Fast.tw6706577393367204416 : Unit := ()
def PySem.W.Fast.tw15928887576583028446 : Unit := ()
def PySem.W.Fast.tw13077919302123915122 : Unit := ()
def PySem.W.Fast.tw12448920217030695610 : Unit := ()
def PySem.W.Fast.tw3923395034761899630 : Unit := ()
def PySem.W.Fast.tw5497538870309029291 : Unit := ()
def PySem.W.Fast.tw13633715852918270056 : Unit := ()
def PySem.W.Fast.tw13043592604344860113 : Unit := ()
def PySem.W.Fast.tw17650026910982096564 : Unit := ()
open PySem PySem.W PyProof.Rows
set_option maxRecDepth 100000 in
set_option maxHeartbeats 0 in
theorem PySem.Challenge.cw_tapeproof_k07_from_any_shot_holds : PySem.Challenge.rw_tapeproof_k07_from_any_shot.Holds := by
  w_on; o_law; z_head; (case hw=>w_witness2)
  k_fill
  refine V.walkX_of (fun P=>?E) (V.walk (l:=PySem.Challenge.rw_tapeproof_k07_from_any_shot) [24,37,49,61,73,85,97,109,121,133,152,195,286] rfl rfl rfl (fun w h Y=>Y) ?F L3.law_true)
  case E=>kernel_rfl
  case F =>
    intro w mg h KX G
    refine' V.z_mk KX G ?c0 ?c1 ?c2 ?c3 ?c4 ?c5 ?c6 ?c7 ?c8 ?c9 ?c10 ?c11 ?c12 ?a1 ?l1 ?d1 ?k1 ?a2 ?l2 ?d2 ?k2 ?a3 ?l3 ?d3 ?k3 ?a4 ?l4 ?d4 ?k4 ?a5 ?l5 ?d5 ?k5 ?i5 ?m5 ?q5 ?a6 ?l6 ?d6 ?k6 ?a7 ?l7 ?d7 ?k7 ?a8 ?l8 ?d8 ?k8 ?i8 ?m8 ?q8 ?a9 ?l9 ?d9 ?k9 ?i9 ?w9 ?a10 ?l10 ?d10 ?k10 ?i10 ?w10 ?a11 ?l11 ?d11 ?k11 ?i11 ?w11 ?a12 ?l12 ?d12 ?k12 ?i12 ?w12 ?a13 ?l13 ?d13 ?k13 ?i13 ?w13 ?a14 ?l14 ?d14 ?k14 ?i14 ?w14 ?a15 ?l15 ?d15 ?k15 ?i15 ?w15 ?a16 ?l16 ?d16 ?k16 ?i16 ?w16 ?a17 ?l17 ?d17 ?k17 ?a18 ?l18 ?d18 ?k18 ?a19 ?l19 ?d19 ?k19 ?a20 ?l20 ?d20 ?k20 ?a21 ?l21 ?d21 ?k21 ?a22 ?l22 ?d22 ?k22 ?a23 ?l23 ?d23 ?k23 ?a24 ?l24 ?d24 ?k24 ?a25 ?l25 ?d25 ?k25 ?a26 ?l26 ?d26 ?k26 ?a27 ?l27 ?d27 ?k27 ?a28 ?l28 ?d28 ?k28 ?a29 ?l29 ?d29 ?k29 ?nz_ValueError ?nz_all ?nz_bool ?nz_dict ?nz_int ?nz_isinstance ?nz_len ?nz_list ?nz_range ?nz_reversed ?nz_sorted ?nz_str ?nz_tuple ?nz_zip ?ng_BLANK ?ng_FIRST_SHOT ?mg_FIRST_SHOT ?ng_LEFT ?ng_RIGHT ?nt_TapeError ?nx_NoMachine ?nx_NoMove ?nx_NoNames ?nx_NoNumber ?nx_NoShape ?nx_NoShot ?nx_NoStretches ?nx_NoText ?nx_NoWidth ?nx_TooLong ?nx_ValueError ?ne_NoShot ?na_left_marks ?na_place ?na_right_marks ?na_state ?na_table
    (case c0=>k_is); (case c1=>k_is); (case c2=>k_is); (case c3=>k_is); (case c4=>k_is); (case c5=>k_is)
    (case c6=>k_is); (case c7=>k_is); (case c8=>k_is); (case c9=>k_is); (case c10=>k_is); (case c11=>k_is)
    (case c12=>k_is); (case a1=>k_is); (case l1=>k_is); (case d1=>k_is); (case k1=>k_is); (case a2=>k_is)
    (case l2=>k_is); (case d2=>k_is); (case k2=>k_is); (case a3=>k_is); (case l3=>k_is); (case d3=>k_is)
    (case k3=>k_is); (case a4=>k_is); (case l4=>k_is); (case d4=>k_is); (case k4=>k_is); (case a5=>k_is)
    (case l5=>k_is); (case d5=>k_is); (case k5=>k_is); (case i5=>k_is); (case m5=>k_is); (case q5=>k_is)
    (case a6=>k_is); (case l6=>k_is); (case d6=>k_is); (case k6=>k_is); (case a7=>k_is); (case l7=>k_is)
    (case d7=>k_is); (case k7=>k_is); (case a8=>k_is); (case l8=>k_is); (case d8=>k_is); (case k8=>k_is)
    (case i8=>k_is); (case m8=>k_is); (case q8=>k_is); (case a9=>k_is); (case l9=>k_is); (case d9=>k_is)
    (case k9=>k_is); (case i9=>k_is); (case w9=>kernel_rfl); (case a10=>k_is); (case l10=>k_is); (case d10=>k_is)
    (case k10=>k_is); (case i10=>k_is); (case w10=>kernel_rfl); (case a11=>k_is); (case l11=>k_is); (case d11=>k_is)
    (case k11=>k_is); (case i11=>k_is); (case w11=>kernel_rfl); (case a12=>k_is); (case l12=>k_is); (case d12=>k_is)
    (case k12=>k_is); (case i12=>k_is); (case w12=>kernel_rfl); (case a13=>k_is); (case l13=>k_is); (case d13=>k_is)
    (case k13=>k_is); (case i13=>k_is); (case w13=>kernel_rfl); (case a14=>k_is); (case l14=>k_is); (case d14=>k_is)
    (case k14=>k_is); (case i14=>k_is); (case w14=>kernel_rfl); (case a15=>k_is); (case l15=>k_is); (case d15=>k_is)
    (case k15=>k_is); (case i15=>k_is); (case w15=>kernel_rfl); (case a16=>k_is); (case l16=>k_is); (case d16=>k_is)
    (case k16=>k_is); (case i16=>k_is); (case w16=>kernel_rfl); (case a17=>k_is); (case l17=>k_is); (case d17=>k_is)
    (case k17=>k_is); (case a18=>k_is); (case l18=>k_is); (case d18=>k_is); (case k18=>k_is); (case a19=>k_is)
    (case l19=>k_is); (case d19=>k_is); (case k19=>k_is); (case a20=>k_is); (case l20=>k_is); (case d20=>k_is)
    (case k20=>k_is); (case a21=>k_is); (case l21=>k_is); (case d21=>k_is); (case k21=>k_is); (case a22=>k_is)
    (case l22=>k_is); (case d22=>k_is); (case k22=>k_is); (case a23=>k_is); (case l23=>k_is); (case d23=>k_is)
    (case k23=>k_is); (case a24=>k_is); (case l24=>k_is); (case d24=>k_is); (case k24=>k_is); (case a25=>k_is)
    (case l25=>k_is); (case d25=>k_is); (case k25=>k_is); (case a26=>k_is); (case l26=>k_is); (case d26=>k_is)
    (case k26=>k_is); (case a27=>k_is); (case l27=>k_is); (case d27=>k_is); (case k27=>k_is); (case a28=>k_is)
    (case l28=>k_is); (case d28=>k_is); (case k28=>k_is); (case a29=>k_is); (case l29=>k_is); (case d29=>k_is)
    (case k29=>k_is); (case nz_ValueError=>k_is); (case nz_all=>k_is); (case nz_bool=>k_is); (case nz_dict=>k_is); (case nz_int=>k_is)
    (case nz_isinstance=>k_is); (case nz_len=>k_is); (case nz_list=>k_is); (case nz_range=>k_is); (case nz_reversed=>k_is); (case nz_sorted=>k_is)
    (case nz_str=>k_is); (case nz_tuple=>k_is); (case nz_zip=>k_is); (case ng_BLANK=>k_is); (case ng_FIRST_SHOT=>k_is); (case mg_FIRST_SHOT=>kernel_rfl)
    (case ng_LEFT=>k_is); (case ng_RIGHT=>k_is); (case nt_TapeError=>kernel_rfl); (case nx_NoMachine=>kernel_rfl); (case nx_NoMove=>kernel_rfl); (case nx_NoNames=>kernel_rfl)
    (case nx_NoNumber=>kernel_rfl); (case nx_NoShape=>kernel_rfl); (case nx_NoShot=>kernel_rfl); (case nx_NoStretches=>kernel_rfl); (case nx_NoText=>kernel_rfl); (case nx_NoWidth=>kernel_rfl)
    (case nx_TooLong=>kernel_rfl); (case nx_ValueError=>kernel_rfl); (case ne_NoShot=>k_exc); (case na_left_marks=>kernel_rfl); (case na_place=>kernel_rfl); (case na_right_marks=>kernel_rfl)
    (case na_state=>kernel_rfl); (case na_table=>kernel_rfl)
