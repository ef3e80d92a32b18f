import PyProof.Rows.All
import Wide.All
import OpenK.AllK
import Wide.FinOn
import Lean
import PyProof.EqAt
import PyProof.EqKinds
import PyProof.TupleCall
import PySem.Challenge.RW_tapeproof_k40_laid_out
local macro_rules | `(tactic| omega) => `(tactic| lia)
set_option Elab.async false
set_option linter.all false
set_option maxRecDepth 100000
namespace L2
open PySem PySem.Spec PyProof.Rows
noncomputable abbrev Key:=Sum Int Str
noncomputable def Qc2:Key->Value->Bool
 | .inl k,v=>Value.isInt k v
 | .inr x,v=>Value.isStrOf x v
noncomputable def keyH (w:World):Key->Int
 | .inl k=>hashInt k
 | .inr x=>hashStr w x
theorem QX:∀ {k:Key} {v:Value},Qc2 k v=true->(∃ i t,k=Sum.inl i∧v=Value.int i t)∨(∃ x t,k=Sum.inr x∧v=Value.str x t)
 | .inl i,v,h=>by
  obtain⟨t,e⟩:=Value.isInt_shape (k:=i) (v:=v) h
  exact .inl ⟨i,t,rfl,e⟩
 | .inr x,v,h=>by
  obtain⟨t,e⟩:=Value.isStrOf_shape (x:=x) (v:=v) h
  exact .inr ⟨x,t,rfl,e⟩
theorem QeO (i:Int) (t:Tok):Qc2 (.inl i) (.int i t)=true:=by simp [Qc2,Value.isInt]
theorem QeP (x:Str) (t:Tok):Qc2 (.inr x) (.str x t)=true:=by simp [Qc2,Value.isStrOf]
theorem Qi0 (a b:Int):decide ((Sum.inl a:Key)=Sum.inl b)=(a == b):=by
 by_cases e:a=b
 ·subst e; simp
 ·have h:¬ (Sum.inl a:Key)=Sum.inl b:=fun q=>e (Sum.inl.inj q)
  rw [decide_eq_false h]
  exact(beq_eq_false_iff_ne.mpr e).symm
theorem Qi1 (a b:Str):decide ((Sum.inr a:Key)=Sum.inr b)=decide (a=b):=by
 by_cases e:a=b
 ·subst e; simp
 ·have h:¬ (Sum.inr a:Key)=Sum.inr b:=fun q=>e (Sum.inr.inj q)
  rw [decide_eq_false h,decide_eq_false e]
theorem Qi2 (a:Int) (b:Str):decide ((Sum.inl a:Key)=Sum.inr b)=false:=decide_eq_false (fun q=>nomatch q)
theorem Qi3 (a:Str) (b:Int):decide ((Sum.inr a:Key)=Sum.inl b)=false:=decide_eq_false (fun q=>nomatch q)
noncomputable def Yz (prog:Program) (w:World):PySem.KeyKind prog w Key where
 is:=Qc2
 hash:=keyH w
 inj:=fun v a b ha hb=>by
  rcases QX ha with⟨i,t,rfl,rfl⟩ | ⟨x,t,rfl,rfl⟩
  ·rcases QX hb with⟨j,u,rfl,e⟩ | ⟨y,u,rfl,e⟩
   ·injection e with e1 _; rw [e1]
   ·exact nomatch e
  ·rcases QX hb with⟨j,u,rfl,e⟩ | ⟨y,u,rfl,e⟩
   ·exact nomatch e
   ·injection e with e1 _; rw [e1]
 byValue:=fun k v h=>by
  rcases QX h with⟨i,t,rfl,rfl⟩ | ⟨x,t,rfl,rfl⟩ <;> rfl
 pyHash:=fun hv h=>by
  rcases QX hv with⟨i,t,rfl,rfl⟩ | ⟨x,t,rfl,rfl⟩
  ·exact wpAny_pyHash_int h
  ·exact wpAny_pyHash_str h
 eqBool:=fun hu hv h=>by
  rcases QX hu with⟨i,t,rfl,rfl⟩ | ⟨x,t,rfl,rfl⟩
  ·rcases QX hv with⟨j,u,rfl,rfl⟩ | ⟨y,u,rfl,rfl⟩
   ·rw [Qi0] at h; exact wpAny_eqBool_int h
   ·rw [Qi2] at h; exact SeqAt.EqAt.int_str i t y u _ _ _ _ h
  ·rcases QX hv with⟨j,u,rfl,rfl⟩ | ⟨y,u,rfl,rfl⟩
   ·rw [Qi3] at h; exact SeqAt.EqAt.str_int x t j u _ _ _ _ h
   ·rw [Qi1] at h; exact wpAny_eqBool_str h
 «strs»:=fun k x t v h=>by
  rcases QX h with⟨i,u,rfl,e⟩ | ⟨y,u,rfl,e⟩
  ·exact nomatch e
  ·injection e with e1 _
   subst e1
   cases v <;> rfl
theorem Qc3 (prog:Program) (w:World) (i:Int) (t:Tok):(Yz prog w).is (.inl i) (.int i t)=true:=QeO i t
theorem Qc4 (prog:Program) (w:World) (x:Str) (t:Tok):(Yz prog w).is (.inr x) (.str x t)=true:=QeP x t
end L2
namespace L2
open PySem PySem.Spec PyProof.Rows
inductive V where
 | non | bl (b:Bool) | int (i:Int) | str (x:Str) | byt (b:Array UInt8) | flt (b:UInt64) | ref (a:Addr) | ty (n:String)
 deriving DecidableEq
noncomputable def RelV:V->Value->Prop
 | .non,u=>u=Value.none
 | .bl b,u=>u=Value.bool b
 | .int i,u=>∃ t,u=Value.int i t
 | .str x,u=>∃ t,u=Value.str x t
 | .byt b,u=>∃ t,u=Value.bytes b t
 | .flt b,u=>∃ t,u=Value.float b t
 | .ref a,u=>u=Value.ref a
 | .ty n,u=>u=Value.type n
noncomputable abbrev Vals:List V->List Value->Prop:=Paired RelV
theorem Vals.length {xs:List V} {us:List Value} (r:Vals xs us):xs.length=us.length:=Paired.length r
theorem Vals.get:∀ {xs:List V} {us:List Value} {i:Nat} {x:V},Vals xs us->xs[i]?=some x->∃ u,us[i]?=some u∧RelV x u
 | _,_,_,_,.nil,e=>by simp at e
 | _,_,0,_,.cons r _,e=>by simp at e; subst e; exact⟨_,rfl,r⟩
 | _,_,i+1,x,.cons _ t,e=>by
  obtain⟨u,h1,h2⟩:=Vals.get (i:=i) (x:=x) t (by simpa using e)
  exact⟨u,by simpa using h1,h2⟩
theorem Vals.set {x:V} {u:Value} (r:RelV x u):∀ {xs:List V} {us:List Value} (i:Nat),Vals xs us->Vals (xs.set i x) (us.set i u)
 | _,_,_,.nil=>.nil
 | _,_,0,.cons _ t=>.cons r t
 | _,_,i+1,.cons q t=>.cons q (Vals.set r i t)
theorem Vals.append:∀ {xs ys:List V} {us ws:List Value},Vals xs us->Vals ys ws->Vals (xs++ys) (us++ws)
 | _,_,_,_,.nil,s=>s
 | _,_,_,_,.cons r t,s=>.cons r (Vals.append t s)
theorem Vals.take:∀ {xs:List V} {us:List Value} (n:Nat),Vals xs us->Vals (xs.take n) (us.take n)
 | _,_,0,_=>.nil
 | _,_,_+1,.nil=>.nil
 | _,_,n+1,.cons r t=>.cons r (Vals.take n t)
theorem Vals.drop:∀ {xs:List V} {us:List Value} (n:Nat),Vals xs us->Vals (xs.drop n) (us.drop n)
 | _,_,0,r=>r
 | _,_,_+1,.nil=>.nil
 | _,_,n+1,.cons _ t=>Vals.drop n t
noncomputable def RelO:Option V->Option Value->Prop
 | some v,some u=>RelV v u
 | none,none=>True
 | _,_=>False
noncomputable def KV {κ:Type}:List (κ×V)->List (κ×Value)->Prop:=Paired fun(p:κ×V) (q:κ×Value)=>p.1=q.1∧RelV p.2 q.2
noncomputable def kV:Key->V
 | .inl i=>.int i
 | .inr x=>.str x
inductive HO where
 /-- a list -/
 | lst (xs:List V)
 /-- a tuple (never changes) -/
 | tup (xs:List V)
 /-- a dict whose keys are ints and texts; one whose keys are tuples of ints and texts (the empty one is both) -/
 | dK (kvs:List (Key×V)) | dT (kvs:List (List Key×V))
 /-- a set of ints: its members,its size -/
 | set (S:Int->Bool) (n:Nat)
 /-- an instance of the class at C,its dict at dx,its attributes -/
 | ins (C dx:Addr) (fs:List (Str×V))
 /-- the dict of the instance at x -/
 | own (x:Addr)
 /-- the dict of an exception -/
 | xd (fs:List (Str×V))
 /-- a bound method,f of x -/
 | met (f x:Addr)
 /-- a range object lo,lo+1,.. below hi -/
 | rng (lo hi:Int)
 /-- a thing that is known to the object (the script; a dict while a loop walks it): read,never written while it is so -/
 | frz (o:Obj) (u:HO)
 /-- a code object's table -/
 | tbl (ps:Array Value)
 /-- any other thing,by what is true of its one object (a def of one's own: SetO a S n:=HO.ext fun h=>..) -/
 | ext (φ:Heap->Prop)
noncomputable abbrev Hp:=Addr->Option HO
noncomputable def upd (H:Hp) (a:Addr) (o:HO):Hp:=fun b=>if b=a then some o else H b
theorem Qt {H:Hp} {a:Addr} {o:HO}:upd H a o a=some o:=by unfold upd; rw [if_pos rfl]
theorem Qw {H:Hp} {a b:Addr} {o:HO} (h:b≠a):upd H a o b=H b:=by unfold upd; rw [if_neg h]
theorem QhJ {H:Hp} {a b:Addr} {o u:HO} (h:H a=some o) (h':H b=some u) (d:o≠u):a≠b:=by
 intro e; subst e; rw [h] at h'; exact d (Option.some.inj h')
theorem QI {H:Hp} {a b:Addr} {o:HO} (h:H a=some o) (h':H b=none):a≠b:=by
 intro e; subst e; rw [h] at h'; cases h'
section
variable (P:Program) (w:World)
noncomputable def ObjOk (H:Hp) (h:Heap) (a:Addr):HO->Prop
 | .lst xs=>xs.length≤sizeLine∧∃(its:List Value) (n:Nat),Vals xs its∧h.get? a=some { cls:=.type "list",data:=.seq its.toArray n }
 | .tup xs=>xs.length≤sizeLine∧∃ its:List Value,Vals xs its∧IsTup h a its.toArray
 | .dK kvs=>kvs.length≤sizeLine∧(a == sysModules)=false∧∃ vs,KV kvs vs∧h.DictOf (Yz P w) a vs
 | .dT kvs=>kvs.length≤sizeLine∧(a == sysModules)=false∧∃ xs:List (List Key×Addr×Value),
   Paired (fun(p:List Key×V) (q:List Key×Addr×Value)=>p.1=q.1∧H q.2.1=some (.tup (p.1.map kV))∧RelV p.2 q.2.2) kvs xs ∧
   ∃ o es ep,h.get? a=some o∧o.ExactDict∧o.data=.dict es ep∧es.toList=xs.map (entryOfKey (tupleKind (Yz P w)))∧(xs.map (·.1)).Nodup
 | .set S n=>h.SetOf (intKind P w) a S n
 | .ins C dx fs=>H dx=some (.own a)∧fs.length≤1000∧dx≠a∧h.get? a=some (PySem.W.instObj C dx) ∧
   ∃ mA,h.Ns1 dx mA∧(∀ f,RelO (fs.lookup f) (mA f))∧PySem.Within mA (fs.map (·.1))
 | .own _=>∃ o,h.get? a=some o
 | .xd fs=>∃ mA,h.Ns1 a mA∧∀ f,RelO (fs.lookup f) (mA f)
 | .rng lo hi=>∃ t u v,h.get? a=some { cls:=.type "range",data:=.fields #[.int lo t,.int hi u,.int 1 v] }
 | .frz o u=>h.get? a=some o∧ObjOk H h a u
 | .tbl ps=>h.get? a=some { cls:=.none,data:=.fields ps }
 | .met f x=>h.get? a=some (PySem.W.methodObj (.ref f) (.ref x))
 | .ext φ=>φ h∧(∃ o,h.get? a=some o)∧∀ h1 h2:Heap,φ h1->(∀ o,h1.get? a=some o->h2.get? a=some o)->φ h2
noncomputable def HOk (H:Hp) (h:Heap):Prop:=∀ a o,H a=some o->ObjOk P w H h a o
end
section
variable {P:Program} {w:World} {H H':Hp} {h h':Heap} {a:Addr} {o:HO}
theorem ObjOk.lt (x:ObjOk P w H h a o):a<h.objs.size:=by
 cases o with
 | lst xs=>obtain⟨_,_,_,_,e⟩:=x; exact Heap.lt_size e
 | tup xs=>obtain⟨_,_,_,p⟩:=x; exact p.lt
 | dK kvs=>obtain⟨_,_,_,_,o,_,_,e,_⟩:=x; exact Heap.lt_size e
 | dT kvs=>obtain⟨_,_,_,_,o,_,_,e,_⟩:=x; exact Heap.lt_size e
 | set S n=>obtain⟨o,_,_,_,e,_⟩:=x; exact Heap.lt_size e
 | ins C dx fs=>obtain⟨_,_,_,e,_⟩:=x; exact Heap.lt_size e
 | own y=>obtain⟨_,e⟩:=x; exact Heap.lt_size e
 | xd fs=>obtain⟨_,⟨_,_,_,e,_⟩,_⟩:=x; exact Heap.lt_size e
 | rng lo hi=>obtain⟨_,_,_,e⟩:=x; exact Heap.lt_size e
 | frz ob u=>obtain⟨e,_⟩:=x; exact Heap.lt_size e
 | tbl ps=>exact Heap.lt_size (show h.get? a=some _ from x)
 | met f y=>exact Heap.lt_size (show h.get? a=some _ from x)
 | ext φ=>obtain⟨_,⟨_,e⟩,_⟩:=x; exact Heap.lt_size e
theorem Paired.mapP {α β:Type} {F G:α->β->Prop}:∀ {l₁:List α} {l₂:List β},Paired F l₁ l₂->(∀ a b,F a b->G a b)->Paired G l₁ l₂
 | _,_,.nil,_=>.nil
 | _,_,.cons r t,f=>.cons (f _ _ r) (Paired.mapP t f)
theorem Paired.imp' {α β:Type} {F G:α->β->Prop} (f:∀ a b,F a b->G a b) {l₁:List α} {l₂:List β} (r:Paired F l₁ l₂):Paired G l₁ l₂:=Paired.mapP r f
theorem ObjOk.stay (x:ObjOk P w H h a o) (k:∀ b u,(b=a∨H b=some (.own a))->h.get? b=some u->h'.get? b=some u)
  (ho:∀ b,H b=some (.own a)->H' b=some (.own a)) (ht:∀ b xs,H b=some (.tup xs)->H' b=some (.tup xs)):ObjOk P w H' h' a o:=by
 induction o with
 | lst xs=>obtain⟨z,its,n,r,e⟩:=x; exact⟨z,its,n,r,k _ _ (.inl rfl) e⟩
 | tup xs=>obtain⟨z,its,r,ob,e,c⟩:=x; exact⟨z,its,r,ob,k _ _ (.inl rfl) e,c⟩
 | dK kvs=>obtain⟨z,y,vs,r,ob,es,ep,e,c⟩:=x; exact⟨z,y,vs,r,ob,es,ep,k _ _ (.inl rfl) e,c⟩
 | dT kvs =>
  obtain⟨z,y,xs,r,ob,es,ep,e,c⟩:=x
  exact⟨z,y,xs,Paired.mapP r fun p q z=>⟨z.1,ht _ _ z.2.1,z.2.2⟩,ob,es,ep,k _ _ (.inl rfl) e,c⟩
 | set S n=>obtain⟨ob,es,ep,t,e,c⟩:=x; exact⟨ob,es,ep,t,k _ _ (.inl rfl) e,c⟩
 | ins C dx fs =>
  obtain⟨d,z,ne,e,mA,⟨od,es,ep,e2,c⟩,r⟩:=x
  exact⟨ho _ d,z,ne,k _ _ (.inl rfl) e,mA,⟨od,es,ep,k _ _ (.inr d) e2,c⟩,r⟩
 | own y=>obtain⟨ob,e⟩:=x; exact⟨ob,k _ _ (.inl rfl) e⟩
 | xd fs=>obtain⟨mA,⟨od,es,ep,e,c⟩,r⟩:=x; exact⟨mA,⟨od,es,ep,k _ _ (.inl rfl) e,c⟩,r⟩
 | rng lo hi=>obtain⟨t,u,v,e⟩:=x; exact⟨t,u,v,k _ _ (.inl rfl) e⟩
 | frz ob u ih=>obtain⟨e,q⟩:=x; exact⟨k _ _ (.inl rfl) e,ih q⟩
 | tbl ps =>
  have e:h.get? a=some { cls:=.none,data:=.fields ps }:=x
  show h'.get? a=some { cls:=.none,data:=.fields ps }
  exact k a _ (.inl rfl) e
 | met f y =>
  have e:h.get? a=some (PySem.W.methodObj (.ref f) (.ref y)):=x
  show h'.get? a=some (PySem.W.methodObj (.ref f) (.ref y))
  exact k a _ (.inl rfl) e
 | ext φ=>obtain⟨p,⟨o,e⟩,st⟩:=x; exact⟨st _ _ p fun o q=>k _ _ (.inl rfl) q,⟨o,k _ _ (.inl rfl) e⟩,st⟩
theorem HOk.lt (x:HOk P w H h) (e:H a=some o):a<h.objs.size:=(x a o e).lt
theorem HOk.fresh (x:HOk P w H h) (e:h.objs.size≤a):H a=none:=by
 cases q:H a with
 | none=>rfl
 | some u=>exact absurd (Nat.lt_of_lt_of_le (x.lt q) e) (Nat.lt_irrefl _)
theorem HOk.kept (x:HOk P w H h) (k:∀ b u,h.get? b=some u->h'.get? b=some u):HOk P w H h':=fun a o e =>
 (x a o e).stay (fun b u _ q=>k b u q) (fun _ q=>q) fun _ _ q=>q
theorem HOk.laid (x:HOk P w H h) (k:∀ b u,h.get? b=some u->h'.get? b=some u) (hp:h.objs.size≤a) (new:ObjOk P w (upd H a o) h' a o):HOk P w (upd H a o) h':=fun b u e=>by
 have hn:=x.fresh hp
 by_cases hb:b=a
 ·subst hb; rw [Qt] at e; cases e; exact new
 ·rw [Qw hb] at e
  exact(x b u e).stay (fun c v _ q=>k c v q) (fun c q=>by rw [Qw (QI q hn)]; exact q) fun c xs q=>by rw [Qw (QI q hn)]; exact q
end
noncomputable def Rd (H:Hp) (a:Addr) (u:HO):Prop:=H a=some u∨∃ o,H a=some (.frz o u)
theorem Rd.of {H:Hp} {a:Addr} {u:HO} (h:H a=some u):Rd H a u:=.inl h
theorem Rd.ok {P:Program} {w:World} {H:Hp} {h:Heap} {a:Addr} {u:HO} (r:Rd H a u) (x:HOk P w H h):ObjOk P w H h a u:=by
 rcases r with r | ⟨o,r⟩
 ·exact x a u r
 ·obtain⟨_,q⟩:=x a _ r
  exact q
noncomputable def Mut:Option HO->Prop
 | some (.lst _)=>True
 | some (.dK _)=>True
 | some (.dT _)=>True
 | some (.set _ _)=>True
 | some (.ins _ _ _)=>True
 | some (.ext _)=>True
 | _=>False
section
variable {P:Program} {w:World} {H:Hp} {h h':Heap} {x e:Addr} {o':HO}
theorem HOk.write (ok:HOk P w H h) (mu:Mut (H x)) (he:e=x∨H e=some (.own x)) (k:∀ b u,b≠e->h.get? b=some u->h'.get? b=some u) (heo:∃ u,h'.get? e=some u)
  (new:ObjOk P w (upd H x o') h' x o'):HOk P w (upd H x o') h':=fun b u q=>by
 have nown:∀ c y,H c=some (.own y)->c≠x:=fun c y r z=>by subst z; rw [r] at mu; exact mu
 have ntup:∀ c xs,H c=some (.tup xs)->c≠x:=fun c xs r z=>by subst z; rw [r] at mu; exact mu
 by_cases hb:b=x
 ·subst hb; rw [Qt] at q; cases q; exact new
 ·rw [Qw hb] at q
  by_cases hbe:b=e
  ·have q':H b=some (.own x):=by
    rcases he with z | z
    ·exact absurd (hbe.trans z) hb
    ·rw [hbe]; exact z
   rw [q] at q'; cases q'
   obtain⟨v,hv⟩:=heo
   exact⟨v,by rw [hbe]; exact hv⟩
  ·refine(ok b u q).stay (fun c v hc r=>k c v ?_ r) (fun c r=>by rw [Qw (nown c b r)]; exact r) fun c xs r=>by rw [Qw (ntup c xs r)]; exact r
   rcases hc with rfl | hc
   ·exact hbe
   ·rintro rfl
    rcases he with z | z
    ·exact nown c b hc z
    ·rw [hc] at z; cases z; exact hb rfl
end
structure Un (fs ex:List Addr) (H H':Hp) (h h':Heap):Prop where
 keep:∀ b o,h.get? b=some o->H b=none->b∉fs->b∉ex->h'.get? b=some o
 slot:∀ b o,h.get? b=some o->H b=none->b∈fs->b∉ex->∃ sl,h'.get? b=some { o with slots:=sl }
 free:∀ b o,h.get? b=some o->H b=none->b∉ex->H' b=none
 there:∀ b o,h.get? b=some o->b∉ex->∃ o',h'.get? b=some o'
 tups:∀ b xs,H b=some (.tup xs)->H' b=some (.tup xs)
 frzs:∀ b o u,H b=some (.frz o u)->H' b=some (.frz o u)
 tbls:∀ b ps,H b=some (.tbl ps)->∃ more,H' b=some (.tbl (ps++more))
section
variable {fs fs' ex ex':List Addr} {H H1 H2:Hp} {h h1 h2 h':Heap} {a x e:Addr} {o:HO}
theorem Un.any (u:Un fs ex H H1 h h1) {b:Addr} {ob:Obj} (q:h.get? b=some ob) (n:H b=none) (hx:b∉ex):∃ sl,h1.get? b=some { ob with slots:=sl }:=by
 by_cases hb:b∈fs
 ·exact u.slot b ob q n hb hx
 ·exact⟨ob.slots,u.keep b ob q n hb hx⟩
theorem Un.trans (a:Un fs ex H H1 h h1) (b:Un fs ex H1 H2 h1 h2):Un fs ex H H2 h h2 where
 keep:=fun c ob q n hc hx=>b.keep c ob (a.keep c ob q n hc hx) (a.free c ob q n hx) hc hx
 slot:=fun c ob q n hc hx=>by
  obtain⟨sl,e1⟩:=a.slot c ob q n hc hx
  obtain⟨sl',e2⟩:=b.slot c _ e1 (a.free c ob q n hx) hc hx
  exact⟨sl',e2⟩
 free:=fun c ob q n hx=>by
  obtain⟨o',e1⟩:=a.there c ob q hx
  exact b.free c o' e1 (a.free c ob q n hx) hx
 there:=fun c ob q hx=>by
  obtain⟨o',e1⟩:=a.there c ob q hx
  exact b.there c o' e1 hx
 tups:=fun c xs q=>b.tups c xs (a.tups c xs q)
 frzs:=fun c ob xs q=>b.frzs c ob xs (a.frzs c ob xs q)
 tbls:=fun c ps q=>by
  obtain⟨m1,e1⟩:=a.tbls c ps q
  obtain⟨m2,e2⟩:=b.tbls c _ e1
  exact⟨m1++m2,by rw [e2,Array.append_assoc]⟩
theorem Un.kept (k:∀ b u,h.get? b=some u->h'.get? b=some u):Un fs ex H H h h' :=
 ⟨fun b ob q _ _ _=>k b ob q,fun b ob q _ _ _=>⟨ob.slots,k b ob q⟩,fun _ _ _ n _=>n,fun b ob q _=>⟨ob,k b ob q⟩,fun _ _ q=>q,fun _ _ _ q=>q,fun _ ps q=>⟨#[],by rw [q]; simp⟩⟩
theorem Un.refl:Un fs ex H H h h:=Un.kept fun _ _ q=>q
theorem Un.laid (k:∀ b u,h.get? b=some u->h'.get? b=some u) (hp:h.objs.size≤a) (hn:H a=none):Un fs ex H (upd H a o) h h' where
 keep:=fun b u q _ _ _=>k b u q
 slot:=fun b u q _ _ _=>⟨u.slots,k b u q⟩
 free:=fun b u q n _=>by rw [Qw (Nat.ne_of_lt (Nat.lt_of_lt_of_le (Heap.lt_size q) hp))]; exact n
 there:=fun b u q _=>⟨u,k b u q⟩
 tups:=fun b xs q=>by rw [Qw (QI q hn)]; exact q
 frzs:=fun b u xs q=>by rw [Qw (QI q hn)]; exact q
 tbls:=fun b ps q=>⟨#[],by rw [Qw (QI q hn),q]; simp⟩
theorem Un.write (mu:Mut (H x)) (he:e=x∨H e=some (.own x)) (k:∀ b u,b≠e->h.get? b=some u->h'.get? b=some u) (heo:∃ u,h'.get? e=some u):Un fs ex H (upd H x o) h h':=by
 have hx:∀ b,H b=none->b≠x:=fun b n z=>by subst z; rw [n] at mu; exact mu
 have hb:∀ b,H b=none->b≠e:=fun b n z=>by
  subst z
  rcases he with r | r
  ·exact hx b n r
  ·rw [n] at r; cases r
 have hm:∀ b u,H b=some u->¬ Mut (some u)->b≠x:=fun b u q nm z=>by subst z; rw [q] at mu; exact nm mu
 refine⟨fun b u q n _ _=>k b u (hb b n) q,fun b u q n _ _=>⟨u.slots,k b u (hb b n) q⟩,fun b u q n _=>by rw [Qw (hx b n)]; exact n,fun b u q _=>?_,
  fun b xs q=>by rw [Qw (hm b _ q fun z=>z)]; exact q,fun b u xs q=>by rw [Qw (hm b _ q fun z=>z)]; exact q,fun b ps q=>⟨#[],by rw [Qw (hm b _ q fun z=>z),q]; simp⟩⟩
 by_cases hbe:b=e
 ·subst hbe; exact heo
 ·exact⟨u,k b u hbe q⟩
theorem Un.mono (u:Un fs ex H H1 h h1) (hs:∀ b∈fs,b∈fs') (hx:∀ b∈ex,b∈ex'):Un fs' ex' H H1 h h1 :=
 ⟨fun b ob q n hb he=>u.keep b ob q n (fun z=>hb (hs b z)) fun z=>he (hx b z),fun _ _ q n _ he=>u.any q n fun z=>he (hx _ z),fun b ob q n he=>u.free b ob q n fun z=>he (hx b z),fun b ob q he=>u.there b ob q fun z=>he (hx b z),u.tups,u.frzs,u.tbls⟩
end
noncomputable def trk (h:Heap) (H:Hp):List Addr:=(List.range h.objs.size).filter fun a=>(H a).isSome
noncomputable def hidT (h:Heap) (H:Hp):Heap:=PySem.W.hideAll h (trk h H)
theorem QeQ (h:Heap) (H:Hp):(hidT h H).objs.size=h.objs.size:=PySem.W.hideAll_size _ _
theorem Qgm {h:Heap} {H:Hp} {b:Addr} {o:Obj} (e:h.get? b=some o) (n:H b=none):(hidT h H).get? b=some o :=
 PySem.W.hideAll_get _ e fun hm=>by
  have q:(H b).isSome=true:=(List.mem_filter.mp hm).2
  rw [n] at q; simp at q
theorem QhK {h:Heap} {H:Hp} {b:Addr} {o:Obj} (e:(hidT h H).get? b=some o):h.get? b=some o∧H b=none:=by
 have e':h.get? b=some o:=PySem.W.of_hideAll (trk h H) e
 refine⟨e',?_⟩
 cases q:H b with
 | none=>rfl
 | some x =>
  have hm:b∈trk h H:=List.mem_filter.mpr ⟨List.mem_range.mpr (Heap.lt_size e'),by simp [q]⟩
  have z:(hidT h H).get? b=none:=PySem.W.hideAll_none (trk h H) hm
  rw [z] at e; cases e
noncomputable def QhL (g h:Heap) (L:Addr):List (Addr×Obj):=(List.range h.objs.size).filterMap fun a=>if a=L∨(g.get? a).isSome=true then none else (h.get? a).map fun o=>(a,o)
noncomputable def rest (g h:Heap) (L d:Addr):List (Addr×Obj):=(QhL g h L).filter fun p=>decide (p.1≠d)
end L2
namespace L2
open PySem PySem.Spec PyProof.Rows
structure Mod (K:PySem.W.Frag) (mg:Str->Option Value) (base:Heap):Prop where
 kin:K.In base
 glob:base.Ns mainGlobals mg
 blt:∃ mb,base.Ns builtinsNs mb∧∀ x:Str,x ≠ "__name__" -> mb x=bootBuiltins x
 nolimit:base.NoLimit
/-- the context: a def's body (or a comprehension's block) running. base: fixed through the whole law; s₀,H₀: the entry; outer: the frames whose slots others may change (a def's callers); stack: all frames that run;
   ex: iterators that were made ahead of the entry and are walked here (a comprehension's); fn: the names whose cells were made at the entry (a def: all; a comprehension's block: its own); calm: not within an except suite; pn: pins that every state bears; xe: what is wanted of an exception that leaves the code -/
structure Cx where
 prog:Program
 w:World
 K:PySem.W.Frag
 mg:Str->Option Value
 base:Heap
 A:Around
 N:List Str
 s₀:Shared
 H₀:Hp
 env:Env
 outer:List Env
 stack:List Env
 ex:List Addr
 fn:Str->Bool
 calm:Bool
 pn:List (Addr×Obj)
 xe:Value->Shared->Prop
noncomputable def frs (l:List Env):List Addr:=l.filterMap (·.frame)
noncomputable abbrev Cx.fs (X:Cx):List Addr:=frs X.outer
noncomputable def Vis (sc:Scope) (x:Str):Prop:=sc.names.lookup x=some .local∨sc.names.lookup x=some .cell∨sc.names.lookup x=some .free
noncomputable def Loc (sc:Scope) (x:Str):Prop:=sc.names.lookup x=some .local∨sc.names.lookup x=some .cell
noncomputable def Look (env:Env) (h:Heap) (m:Str->Option Value) (x:Str) (u:Value):Prop :=
 (env.kindOf x=some .local∧m x=some u)∨((env.kindOf x=some .cell∨env.kindOf x=some .free)∧∃ c,env.cells.lookup x=some c∧h.IsCell c (some u))
structure Cx.Ok (X:Cx):Prop where
 mod:Mod X.K X.mg X.base
 kind:X.env.scope.kind=.function
 glob:X.env.globals=mainGlobals
 blt:X.env.builtins=builtinsNs
 above:X.s₀.heap.objs.size≤X.env.locals
 inj:∀ x y c,X.env.cells.lookup x=some c->X.env.cells.lookup y=some c->x=y
 has:∀ x,(X.env.kindOf x=some .cell∨X.env.kindOf x=some .free)->∃ c,X.env.cells.lookup x=some c
 cab:∀ x c,X.fn x=true->X.env.cells.lookup x=some c->X.s₀.heap.objs.size≤c
 hd:X.calm=true->X.A.handled=none
 frames:X.A.frames=some X.stack
 stk:X.stack=X.outer∨(X.stack=X.env::X.outer∧X.env.frame=some X.env.locals)
 exf:∀ b∈X.ex,b≠X.env.locals∧∀ x c,X.env.cells.lookup x=some c->c≠b
 bs:∀ b o,X.base.get? b=some o->X.s₀.heap.get? b=some o∧X.H₀ b=none
 bsz:X.base.objs.size≤X.s₀.heap.objs.size
 noex:∀ b o,X.base.get? b=some o->b∉X.ex
 exfs:∀ b∈X.ex,b∉X.fs
 funs:X.s₀.heap.FunFrames X.base X.outer
 frf:∀ b∈X.fs,X.H₀ b=none
structure Inv (X:Cx) (pins:List (Addr×Obj)) (σ:List (Option V)) (H:Hp) (s:Shared):Prop where
 ok:X.Ok
 os:s.os=X.s₀.os
 bare:AllBare s.gens
 base:Un X.fs X.ex X.H₀ H X.s₀.heap s.heap
 loc:∃ m,s.heap.Ns X.env.locals m∧∀(i:Nat) (x:Str) (v:V),X.N[i]?=some x->σ[i]?=some (some v)->Vis X.env.scope x->∃ u,RelV v u∧Look X.env s.heap m x u
 cell:∀ x c,X.env.cells.lookup x=some c->∃ v,s.heap.IsCell c v
 free:H X.env.locals=none
 freeC:∀ x c,X.env.cells.lookup x=some c->H c=none
 pin:∀ p∈X.pn++pins,s.heap.get? p.1=some p.2∧H p.1=none∧p.1≠X.env.locals∧p.1∉X.fs∧∀ v,p.2.data≠.cell v
 hok:HOk X.prog X.w H s.heap
 len:σ.length=X.N.length
section
variable {X:Cx} {pins:List (Addr×Obj)} {σ:List (Option V)} {H H':Hp} {s:Shared} {h':Heap}
theorem Cx.Ok.nofr (ok:X.Ok) {b:Addr} {o:Obj} (e:X.base.get? b=some o):b∉X.fs:=fun hb=>by
 have:=(ok.funs.mem hb).1
 rw [e] at this; cases this
theorem Inv.bs (I:Inv X pins σ H s):∀ b o,X.base.get? b=some o->s.heap.get? b=some o∧H b=none:=fun b o e =>
 ⟨I.base.keep b o (I.ok.bs b o e).1 (I.ok.bs b o e).2 (I.ok.nofr e) (I.ok.noex b o e),I.base.free b o (I.ok.bs b o e).1 (I.ok.bs b o e).2 (I.ok.noex b o e)⟩
theorem Inv.bk (I:Inv X pins σ H s):∀ b o,X.base.get? b=some o->s.heap.get? b=some o:=fun b o e=>(I.bs b o e).1
theorem Inv.mod (I:Inv X pins σ H s):Mod X.K X.mg X.base:=I.ok.mod
theorem Inv.kIn (I:Inv X pins σ H s):X.K.In s.heap:=I.ok.mod.kin.keeps I.bk
theorem Inv.nolimit (I:Inv X pins σ H s):s.heap.NoLimit:=I.ok.mod.nolimit.keeps I.bk
theorem Inv.lt (I:Inv X pins σ H s):X.env.locals<s.heap.objs.size:=let ⟨_,hn,_⟩:=I.loc; hn.lt
theorem Inv.sz (I:Inv X pins σ H s):X.s₀.heap.objs.size≤s.heap.objs.size:=Nat.le_trans I.ok.above (Nat.le_of_lt I.lt)
theorem Inv.nofs (I:Inv X pins σ H s) {a:Addr} (h:s.heap.objs.size≤a):a∉X.fs:=fun hb=>by
 obtain⟨_,o,ho,_⟩:=I.ok.funs.mem hb
 exact absurd (Nat.lt_of_lt_of_le (Heap.lt_size ho) (Nat.le_trans I.sz h)) (Nat.lt_irrefl _)
theorem Inv.cne (I:Inv X pins σ H s):∀ x c,X.env.cells.lookup x=some c->c≠X.env.locals:=fun x c e z=>by
 obtain⟨v,o,ho,hd⟩:=I.cell x c e
 obtain⟨m,⟨o',es,ep,ho',hd',_⟩,_⟩:=I.loc
 rw [z,ho'] at ho; cases ho; rw [hd'] at hd; cases hd
theorem Inv.funs (I:Inv X pins σ H s):s.heap.FunFrames X.base X.outer:=by
 have all:∀(l:List Env),(∀ b∈frs l,b∈X.fs)->X.s₀.heap.FunFrames X.base l->s.heap.FunFrames X.base l:=by
  intro l
  induction l with
  | nil=>intro _ _; trivial
  | cons env r ih =>
   intro hs hl
   obtain⟨hk,⟨L,o,hf,hn,ho,hd⟩,hr⟩:=hl
   have hL:L∈X.fs:=hs L (by unfold frs; rw [List.filterMap_cons,hf]; exact List.mem_cons_self)
   obtain⟨sl,e⟩:=I.base.slot L o ho (I.ok.frf L hL) hL fun z=>I.ok.exfs L z hL
   exact⟨hk,⟨L,_,hf,hn,e,hd⟩,ih (fun b hb=>hs b (by unfold frs; rw [List.filterMap_cons,hf]; exact List.mem_cons_of_mem _ hb)) hr⟩
 exact all X.outer (fun _ hb=>hb) I.ok.funs
theorem Inv.stack (I:Inv X pins σ H s):s.heap.FunFrames X.base X.stack:=by
 rcases I.ok.stk with e | ⟨e,hf⟩
 ·rw [e]; exact I.funs
 ·rw [e]
  obtain⟨m,hn,_⟩:=I.loc
  refine .cons (by rw [I.ok.kind]; decide) hf hn ?_ I.funs
  exact Heap.get?_none_of_le (Nat.le_trans I.ok.bsz I.ok.above)
theorem Inv.stkSub (I:Inv X pins σ H s):∀ b∈frs X.stack,b∈X.env.locals::X.fs:=fun b hb=>by
 rcases I.ok.stk with e | ⟨e,hf⟩
 ·rw [e] at hb; exact List.mem_cons_of_mem _ hb
 ·rw [e] at hb
  unfold frs at hb
  rw [List.filterMap_cons,hf] at hb
  exact hb
theorem Inv.stkFree (I:Inv X pins σ H s):∀ b∈frs X.stack,H b=none:=fun b hb=>by
 rcases List.mem_cons.mp (I.stkSub b hb) with e | hb
 ·rw [e]; exact I.free
 ·obtain⟨_,o,ho,_⟩:=I.ok.funs.mem hb
  exact I.base.free b o ho (I.ok.frf b hb) fun z=>I.ok.exfs b z hb
theorem Inv.step {g':Array GenState} {t':Nat} {d':Drawn} {ch:List Addr} (I:Inv X pins σ H s)
  (hch:∀ b∈ch,(b∈X.ex∨X.s₀.heap.objs.size≤b)∧b≠X.env.locals∧(∀ x c,X.env.cells.lookup x=some c->c≠b)∧∀ p∈X.pn++pins,p.1≠b)
  (keep:∀ b o,b≠X.env.locals->b∉X.fs->b∉ch->s.heap.get? b=some o->H b=none->h'.get? b=some o)
  (slot:∀ b o,b≠X.env.locals->b∈X.fs->b∉ch->s.heap.get? b=some o->H b=none->∃ sl,h'.get? b=some { o with slots:=sl }) (free:∀ b o,b∉ch->s.heap.get? b=some o->H b=none->H' b=none)
  (there:∀ b o,b∉ch->s.heap.get? b=some o->∃ o',h'.get? b=some o')
  (tups:∀ b xs,H b=some (.tup xs)->H' b=some (.tup xs)) (frzs:∀ b o u,H b=some (.frz o u)->H' b=some (.frz o u)) (tbls:∀ b ps,H b=some (.tbl ps)->∃ more,H' b=some (.tbl (ps++more)))
  (ns:∀ m,s.heap.Ns X.env.locals m->h'.Ns X.env.locals m) (hok:HOk X.prog X.w H' h') (hg:AllBare g') :
  Inv X pins σ H' { s with heap:=h',gens:=g',drawn:=d',toks:=t' }:=by
 have neL:∀ b o,X.s₀.heap.get? b=some o->b≠X.env.locals:=fun b o e=>Nat.ne_of_lt (Nat.lt_of_lt_of_le (Heap.lt_size e) I.ok.above)
 have neC:∀ b o,X.s₀.heap.get? b=some o->b∉X.ex->b∉ch:=fun b o e hx hb=>by
  rcases(hch b hb).1 with z | z
  ·exact hx z
  ·exact absurd (Nat.lt_of_lt_of_le (Heap.lt_size e) z) (Nat.lt_irrefl _)
 have cellK:∀ x c,X.env.cells.lookup x=some c->∀ v,s.heap.IsCell c v->h'.IsCell c v:=fun x c e v ⟨o,ho,hd⟩=>by
  have nch:c∉ch:=fun z=>(hch c z).2.2.1 x c e rfl
  by_cases hc:c∈X.fs
  ·obtain⟨sl,q⟩:=slot c o (I.cne x c e) hc nch ho (I.freeC x c e)
   exact⟨_,q,hd⟩
  ·exact⟨o,keep c o (I.cne x c e) hc nch ho (I.freeC x c e),hd⟩
 refine⟨I.ok,I.os,hg,⟨fun b o e n hb hx=>?_,fun b o e n hb hx=>?_,fun b o e n hx=>?_,fun b o e hx=>?_,fun b xs e=>tups b xs (I.base.tups b xs e),fun b o xs e=>frzs b o xs (I.base.frzs b o xs e),fun b ps e=>?_⟩,?_,fun x c e=>?_,?_,fun x c e=>?_,fun p hp=>?_,hok,I.len⟩
 ·exact keep b o (neL b o e) hb (neC b o e hx) (I.base.keep b o e n hb hx) (I.base.free b o e n hx)
 ·obtain⟨sl,e1⟩:=I.base.slot b o e n hb hx
  obtain⟨sl',e2⟩:=slot b _ (neL b o e) hb (neC b o e hx) e1 (I.base.free b o e n hx)
  exact⟨sl',e2⟩
 ·obtain⟨o',e1⟩:=I.base.there b o e hx
  exact free b o' (neC b o e hx) e1 (I.base.free b o e n hx)
 ·obtain⟨o',e1⟩:=I.base.there b o e hx
  exact there b o' (neC b o e hx) e1
 ·obtain⟨m1,e1⟩:=I.base.tbls b ps e
  obtain⟨m2,e2⟩:=tbls b _ e1
  exact⟨m1++m2,by rw [e2,Array.append_assoc]⟩
 ·obtain⟨m,hn,hl⟩:=I.loc
  refine⟨m,ns m hn,fun i x v e1 e2 e3=>?_⟩
  obtain⟨u,r,l⟩:=hl i x v e1 e2 e3
  refine⟨u,r,?_⟩
  rcases l with l | ⟨k,c,e,z⟩
  ·exact .inl l
  ·exact .inr ⟨k,c,e,cellK x c e _ z⟩
 ·obtain⟨v,z⟩:=I.cell x c e
  exact⟨v,cellK x c e v z⟩
 ·obtain⟨m,⟨o,_,_,ho,_⟩,_⟩:=I.loc
  exact free _ o (fun z=>(hch _ z).2.1 rfl) ho I.free
 ·obtain⟨v,o,ho,hd⟩:=I.cell x c e
  exact free c o (fun z=>(hch c z).2.2.1 x c e rfl) ho (I.freeC x c e)
 ·obtain⟨e,n,ne,nf,d⟩:=I.pin p hp
  have nch:p.1∉ch:=fun z=>(hch p.1 z).2.2.2 p hp rfl
  exact⟨keep p.1 p.2 ne nf nch e n,free p.1 p.2 nch e n,ne,nf,d⟩
theorem Inv.un {t':Nat} (I:Inv X pins σ H s) (u:Un X.fs [] H H' s.heap h') (hok:HOk X.prog X.w H' h'):Inv X pins σ H' { s with heap:=h',toks:=t' }:=by
 obtain⟨m,⟨o,es,ep,ho,r⟩,_⟩:=id I.loc
 obtain⟨sl,hL⟩:=u.any ho I.free (by simp)
 exact I.step (g':=s.gens) (d':=s.drawn) (ch:=[]) (fun _ z=>nomatch z) (fun b o _ hb _ e n=>u.keep b o e n hb (by simp)) (fun b o _ hb _ e n=>u.slot b o e n hb (by simp)) (fun b o _ e n=>u.free b o e n (by simp)) (fun b o _ e=>u.there b o e (by simp)) u.tups u.frzs u.tbls (fun m' hm=>by
  obtain⟨o',es',ep',ho',r'⟩:=hm
  rw [ho] at ho'; cases ho'
  exact⟨_,es',ep',hL,r'⟩) hok I.bare
theorem Inv.call {g':Array GenState} {t':Nat} {d':Drawn} {ch:List Addr} (I:Inv X pins σ H s) (u:Un (frs X.stack) ch H H' s.heap h') (hok:HOk X.prog X.w H' h') (hg:AllBare g')
  (hch:∀ b∈ch,(b∈X.ex∨X.s₀.heap.objs.size≤b)∧b≠X.env.locals∧(∀ x c,X.env.cells.lookup x=some c->c≠b)∧∀ p∈X.pn++pins,p.1≠b) :
  Inv X pins σ H' { s with heap:=h',gens:=g',drawn:=d',toks:=t' }:=by
 obtain⟨m,⟨o,es,ep,ho,r⟩,_⟩:=id I.loc
 obtain⟨sl,hL⟩:=u.any ho I.free fun z=>(hch _ z).2.1 rfl
 exact I.step (ch:=ch) hch (fun b o hL hb hc e n=>u.keep b o e n (fun z=>(List.mem_cons.mp (I.stkSub b z)).elim hL hb) hc) (fun b o _ _ hc e n=>u.any e n hc) (fun b o hc e n=>u.free b o e n hc) (fun b o hc e=>u.there b o e hc) u.tups u.frzs u.tbls (fun m' hm=>by
  obtain⟨o',es',ep',ho',r'⟩:=hm
  rw [ho] at ho'; cases ho'
  exact⟨_,es',ep',hL,r'⟩) hok hg
theorem Inv.turned {t':Nat} {it:Addr} (I:Inv X pins σ H s) (k:∀ b o,b≠it->s.heap.get? b=some o->h'.get? b=some o) (hn:H it=none) (hL:it≠X.env.locals)
  (h1:it∈X.ex∨X.s₀.heap.objs.size≤it) (h2:∀ x c,X.env.cells.lookup x=some c->c≠it) (h3:∀ p∈X.pn++pins,p.1≠it):Inv X pins σ H { s with heap:=h',toks:=t' }:=by
 have nit:∀ b u,H b=some u->b≠it:=fun b u e z=>by rw [z,hn] at e; cases e
 refine I.step (g':=s.gens) (d':=s.drawn) (ch:=[it]) (fun b hb=>?_) (fun b o _ _ hc e _=>k b o (fun z=>hc (by simp [z])) e) (fun b o _ _ hc e _=>⟨o.slots,k b o (fun z=>hc (by simp [z])) e⟩) (fun _ _ _ _ n=>n)
  (fun b o hc e=>⟨o,k b o (fun z=>hc (by simp [z])) e⟩) (fun _ _ e=>e) (fun _ _ _ e=>e) (fun b ps e=>⟨#[],by rw [e]; simp⟩) (fun m hm=>?_) (fun b u e=>?_) I.bare
 ·have e:b=it:=by simpa using hb
  subst e
  exact⟨h1,hL,h2,h3⟩
 ·obtain⟨o,es,ep,ho,r⟩:=hm
  exact⟨o,es,ep,k _ o (Ne.symm hL) ho,r⟩
 ·refine(I.hok b u e).stay (fun c v hc q=>k c v ?_ q) (fun _ q=>q) fun _ _ q=>q
  rcases hc with z | z
  ·rw [z]; exact nit b u e
  ·exact nit c _ z
theorem Inv.tok (I:Inv X pins σ H s) (t:Nat):Inv X pins σ H { s with toks:=t }:=I.un (h':=s.heap) (t':=t) Un.refl I.hok
theorem Inv.kept {t':Nat} (I:Inv X pins σ H s) (k:∀ b u,s.heap.get? b=some u->h'.get? b=some u):Inv X pins σ H { s with heap:=h',toks:=t' }:=I.un (Un.kept k) (I.hok.kept k)
theorem Inv.laid {a:Addr} {o:HO} {t':Nat} (I:Inv X pins σ H s) (k:∀ b u,s.heap.get? b=some u->h'.get? b=some u) (hp:s.heap.objs.size≤a) (new:ObjOk X.prog X.w (upd H a o) h' a o) :
  Inv X pins σ (upd H a o) { s with heap:=h',toks:=t' }:=I.un (Un.laid k hp (I.hok.fresh hp)) (I.hok.laid k hp new)
theorem Inv.write {x e:Addr} {o:HO} {t':Nat} (I:Inv X pins σ H s) (mu:Mut (H x)) (he:e=x∨H e=some (.own x)) (k:∀ b u,b≠e->s.heap.get? b=some u->h'.get? b=some u) (heo:∃ u,h'.get? e=some u)
  (new:ObjOk X.prog X.w (upd H x o) h' x o):Inv X pins σ (upd H x o) { s with heap:=h',toks:=t' }:=I.un (Un.write mu he k heo) (I.hok.write mu he k heo new)
theorem Inv.pins_of {pins':List (Addr×Obj)} (I:Inv X pins σ H s) (h:∀ p∈pins',s.heap.get? p.1=some p.2∧H p.1=none∧p.1≠X.env.locals∧p.1∉X.fs∧∀ v,p.2.data≠.cell v):Inv X pins' σ H s :=
 ⟨I.ok,I.os,I.bare,I.base,I.loc,I.cell,I.free,I.freeC,fun p hp=>(List.mem_append.mp hp).elim (fun z=>I.pin p (List.mem_append_left _ z)) (h p),I.hok,I.len⟩
theorem QbD {N:List Str} (hN:N.Nodup) {i j:Nat} {x:Str} (a:N[i]?=some x) (b:N[j]?=some x):i=j:=by
 obtain⟨h1,e1⟩:=List.getElem?_eq_some_iff.mp a
 obtain⟨h2,e2⟩:=List.getElem?_eq_some_iff.mp b
 exact(List.getElem_inj hN).mp (e1.trans e2.symm)
theorem QeR {M:Model} {A:Around} {E:Value->Shared->Prop} {i:Nat} {x:Str} {v:V} {u:Value} {Q:Unit->Shared->Prop} (I:Inv X pins σ H s) (hN:X.N.Nodup) (hi:X.N[i]?=some x) (hx:Loc X.env.scope x) (r:RelV v u)
  (h:∀ s',Inv X pins (σ.set i (some v)) H s'->(∃ a,Heap.SameBut a s.heap s'.heap∧(a=X.env.locals∨X.env.cells.lookup x=some a))->Q () s') (hf:X.fn x=true∨X.env.scope.names.lookup x=some .local:=by first | exact .inl rfl | exact .inr rfl | assumption):wpAny M A (storeName X.env x u) Q E s:=by
 obtain⟨m,hn,hl⟩:=id I.loc
 have hcls:(X.env.scope.kind == .class || (X.env.scope.kind == .module && X.env.locals != X.env.globals))=false:=by rw [I.ok.kind]; rfl
 have hiσ:i<σ.length:=by rw [I.len]; exact(List.getElem?_eq_some_iff.mp hi).1
 have cne:=I.cne
 have tracked:∀ {a:Addr} {h':Heap},(∃ o,s.heap.get? a=some o∧H a=none)->Heap.SameBut a s.heap h'->HOk X.prog X.w H h':=fun {a h'} ha hs b ob e=>by
  obtain⟨_,_,hfree⟩:=ha
  refine(I.hok b ob e).stay (fun c w' hc q=>(hs.2 c ?_).trans q) (fun _ q=>q) fun _ _ q=>q
  rintro rfl
  rcases hc with rfl | hc
  ·rw [hfree] at e; cases e
  ·rw [hfree] at hc; cases hc
 rcases hx with hk | hk
 ·refine wpAny_storeName_local hk hn (fun h' hn' hs=>?_) hcls
  obtain⟨oL,_,_,hoL,_⟩:=id hn
  refine h _ ⟨I.ok,I.os,I.bare,⟨fun b o e n hb hx=>?_,fun b o e n hb hx=>?_,I.base.free,fun b o e hx=>?_,I.base.tups,I.base.frzs,I.base.tbls⟩,⟨_,hn',fun j y v' e1 e2 e3=>?_⟩,fun y c e=>?_,I.free,I.freeC,fun p hp=>?_,tracked ⟨oL,hoL,I.free⟩ hs,by simpa using I.len⟩ ⟨_,hs,.inl rfl⟩
  ·exact(hs.2 b (Nat.ne_of_lt (Nat.lt_of_lt_of_le (Heap.lt_size e) I.ok.above))).trans (I.base.keep b o e n hb hx)
  ·obtain⟨sl,e1⟩:=I.base.slot b o e n hb hx
   exact⟨sl,(hs.2 b (Nat.ne_of_lt (Nat.lt_of_lt_of_le (Heap.lt_size e) I.ok.above))).trans e1⟩
  ·obtain⟨o',e1⟩:=I.base.there b o e hx
   exact⟨o',(hs.2 b (Nat.ne_of_lt (Nat.lt_of_lt_of_le (Heap.lt_size e) I.ok.above))).trans e1⟩
  ·by_cases hj:j=i
   ·subst hj
    rw [hi] at e1; cases e1
    rw [List.getElem?_set_self hiσ] at e2
    cases e2
    exact⟨u,r,.inl ⟨hk,by simp⟩⟩
   ·rw [List.getElem?_set_ne (Ne.symm hj)] at e2
    obtain⟨u',r',q⟩:=hl j y v' e1 e2 e3
    refine⟨u',r',?_⟩
    rcases q with⟨k,e⟩ | ⟨k,c,e,z⟩
    ·refine .inl ⟨k,?_⟩
     have:y≠x:=fun e=>hj (QbD hN e1 (e ▸ hi))
     simp [this,e]
    ·exact .inr ⟨k,c,e,z.sameBut hs (cne y c e)⟩
  ·obtain⟨w',z⟩:=I.cell y c e
   exact⟨w',z.sameBut hs (cne y c e)⟩
  ·obtain⟨e,n,ne,nf,d⟩:=I.pin p hp
   exact⟨(hs.2 p.1 ne).trans e,n,ne,nf,d⟩
 ·have hfn:X.fn x=true:=by
   rcases hf with z | z
   ·exact z
   ·rw [z] at hk; cases hk
  obtain⟨c,hc⟩:=I.ok.has x (.inl hk)
  obtain⟨w',z⟩:=I.cell x c hc
  refine wpAny_storeName_cell I.ok.kind hk hc z (fun h' hc' hs=>?_)
  obtain⟨oc,hoc,hocd⟩:=id z
  refine h { s with heap:=h' } ⟨I.ok,I.os,I.bare,⟨fun b o e n hb hx=>?_,fun b o e n hb hx=>?_,I.base.free,fun b o e hx=>?_,I.base.tups,I.base.frzs,I.base.tbls⟩,⟨m,hn.sameBut hs (Ne.symm (cne x c hc)),fun j y v' e1 e2 e3=>?_⟩,fun y c' e=>?_,I.free,I.freeC,fun p hp=>?_,tracked ⟨oc,hoc,I.freeC x c hc⟩ hs,by simpa using I.len⟩ ⟨c,hs,.inr hc⟩
  ·exact(hs.2 b (Nat.ne_of_lt (Nat.lt_of_lt_of_le (Heap.lt_size e) (I.ok.cab x c hfn hc)))).trans (I.base.keep b o e n hb hx)
  ·obtain⟨sl,e1⟩:=I.base.slot b o e n hb hx
   exact⟨sl,(hs.2 b (Nat.ne_of_lt (Nat.lt_of_lt_of_le (Heap.lt_size e) (I.ok.cab x c hfn hc)))).trans e1⟩
  ·obtain⟨o',e1⟩:=I.base.there b o e hx
   exact⟨o',(hs.2 b (Nat.ne_of_lt (Nat.lt_of_lt_of_le (Heap.lt_size e) (I.ok.cab x c hfn hc)))).trans e1⟩
  ·by_cases hj:j=i
   ·subst hj
    rw [hi] at e1; cases e1
    rw [List.getElem?_set_self hiσ] at e2
    cases e2
    exact⟨u,r,.inr ⟨.inl hk,c,hc,hc'⟩⟩
   ·rw [List.getElem?_set_ne (Ne.symm hj)] at e2
    obtain⟨u',r',q⟩:=hl j y v' e1 e2 e3
    refine⟨u',r',?_⟩
    rcases q with q | ⟨k,c',e,z'⟩
    ·exact .inl q
    ·refine .inr ⟨k,c',e,z'.sameBut hs ?_⟩
     rintro rfl
     exact hj (QbD hN e1 (I.ok.inj _ _ _ e hc ▸ hi))
  ·by_cases hcc:c'=c
   ·subst hcc; exact⟨_,hc'⟩
   ·obtain⟨w2,z2⟩:=I.cell y c' e
    exact⟨w2,z2.sameBut hs hcc⟩
  ·obtain⟨e,n,ne,nf,d⟩:=I.pin p hp
   refine⟨(hs.2 p.1 ?_).trans e,n,ne,nf,d⟩
   intro q
   rw [q,hoc] at e
   have q':oc=p.2:=Option.some.inj e
   exact d w' (by rw [← q']; exact hocd)
theorem Qaf {M:Model} {A:Around} {E:Value->Shared->Prop} {i:Nat} {x:Str} {v:V} {u:Value} {Q:Unit->Shared->Prop} (I:Inv X pins σ H s) (hN:X.N.Nodup) (hi:X.N[i]?=some x) (hx:Loc X.env.scope x) (r:RelV v u)
  (h:∀ s',Inv X pins (σ.set i (some v)) H s'->Q () s') (hf:X.fn x=true∨X.env.scope.names.lookup x=some .local:=by first | exact .inl rfl | exact .inr rfl | assumption):wpAny M A (storeName X.env x u) Q E s :=
 QeR I hN hi hx r (fun s' I' _=>h s' I') hf
theorem Inv.call' {s':Shared} {ch:List Addr} (I:Inv X pins σ H s) (ho:s'.os=s.os) (u:Un (frs X.stack) ch H H' s.heap s'.heap) (hok:HOk X.prog X.w H' s'.heap) (hg:AllBare s'.gens)
  (hch:∀ b∈ch,(b∈X.ex∨X.s₀.heap.objs.size≤b)∧b≠X.env.locals∧(∀ x c,X.env.cells.lookup x=some c->c≠b)∧∀ p∈X.pn++pins,p.1≠b):Inv X pins σ H' s':=by
 obtain⟨h',g',d',t',o'⟩:=s'
 have e:o'=s.os:=ho
 subst e
 exact I.call (g':=g') (t':=t') (d':=d') u hok hg hch
end
noncomputable abbrev XK:=Value->Option Addr->Hp->Prop
noncomputable abbrev St:=List (Option V)
noncomputable abbrev VK:=V->Hp->Prop
noncomputable abbrev TE:=St->Hp->VK->Prop
noncomputable abbrev TT:=St->Hp->(Bool->Hp->Prop)->Prop
noncomputable abbrev TA:=St->Hp->(List V->Hp->Prop)->Prop
structure Ends where
 nx:St->Hp->Prop
 rt:VK
 bk:St->Hp->Prop:=fun _ _=>False
 ct:St->Hp->Prop:=fun _ _=>False
noncomputable abbrev TS:=Ends->St->Hp->Prop
noncomputable def EP (X:Cx) (pins:List (Addr×Obj)) (σ:St) (Q:VK) (u:Value) (s':Shared):Prop:=∃ v H',Inv X pins σ H' s'∧RelV v u∧Q v H'
noncomputable def TP (X:Cx) (pins:List (Addr×Obj)) (σ:St) (Q:Bool->Hp->Prop) (b:Bool) (s':Shared):Prop:=∃ H',Inv X pins σ H' s'∧Q b H'
noncomputable def AP (X:Cx) (pins:List (Addr×Obj)) (σ:St) (Q:List V->Hp->Prop) (us:List Value) (s':Shared):Prop:=∃ vs H',Inv X pins σ H' s'∧Vals vs us∧Q vs H'
noncomputable def SP (X:Cx) (pins:List (Addr×Obj)) (D:Ends) (f:Flow) (s':Shared):Prop :=
 match f with
 | .next=>∃ σ' H',Inv X pins σ' H' s'∧D.nx σ' H'
 | .brk=>∃ σ' H',Inv X pins σ' H' s'∧D.bk σ' H'
 | .cont=>∃ σ' H',Inv X pins σ' H' s'∧D.ct σ' H'
 | .ret u=>∃ v σ' H',Inv X pins σ' H' s'∧RelV v u∧D.rt v H'
noncomputable def PE (X:Cx) (e:Expr) (t:TE):Prop :=
 ∀(pins:List (Addr×Obj)) (s:Shared) (σ:St) (H:Hp) (Q:VK),Inv X pins σ H s->t σ H Q->wpAny (model X.prog X.w) X.A (eval e X.env) (EP X pins σ Q) X.xe s
noncomputable def PT (X:Cx) (e:Expr) (t:TT):Prop :=
 ∀(pins:List (Addr×Obj)) (s:Shared) (σ:St) (H:Hp) (Q:Bool->Hp->Prop),Inv X pins σ H s->t σ H Q->wpAny (model X.prog X.w) X.A (isTrue e X.env (eval e X.env)) (TP X pins σ Q) X.xe s
noncomputable def PW (X:Cx) (e:Expr) (t:TT):Prop :=
 ∀(whole:Sem Value) (pins:List (Addr×Obj)) (s:Shared) (σ:St) (H:Hp) (Q:Bool->Hp->Prop),Inv X pins σ H s->t σ H Q->wpAny (model X.prog X.w) X.A (isTrue e X.env whole) (TP X pins σ Q) X.xe s
theorem PW.pt {X:Cx} {e:Expr} {t:TT} (h:PW X e t):PT X e t:=h _
noncomputable def PA (X:Cx) (es:List Expr) (t:TA):Prop :=
 ∀(pos:Pos) (pins:List (Addr×Obj)) (s:Shared) (σ:St) (H:Hp) (Q:List V->Hp->Prop),Inv X pins σ H s->t σ H Q->wpAny (model X.prog X.w) X.A (spliced (backTo pos (starEach es X.env))) (AP X pins σ Q) X.xe s
noncomputable def PS (X:Cx) (st:Stmt) (t:TS):Prop :=
 ∀(pins:List (Addr×Obj)) (s:Shared) (σ:St) (H:Hp) (D:Ends),Inv X pins σ H s->t D σ H->wpAny (model X.prog X.w) X.A (exec st X.env) (SP X pins D) X.xe s
noncomputable def PSs (X:Cx) (st:List Stmt) (t:TS):Prop :=
 ∀(pins:List (Addr×Obj)) (s:Shared) (σ:St) (H:Hp) (D:Ends),Inv X pins σ H s->t D σ H->wpAny (model X.prog X.w) X.A (execs st X.env) (SP X pins D) X.xe s
theorem thn {α:Type} {t:Sem α} {Q Q':α->Shared->Prop} {M:Model} {A:Around} {E:Value->Shared->Prop} {s:Shared} (h:wpAny M A t Q E s) (hQ:∀ a s,Q a s->Q' a s):wpAny M A t Q' E s:=wpAny_mono h hQ fun _ _ x=>x
end L2
namespace L2
open PySem PySem.Spec PyProof.Rows
section
variable {X:Cx}
theorem bin {a b:Expr} {ta tb:TE} (ha:PE X a ta) (hb:PE X b tb) {pins:List (Addr×Obj)} {s:Shared} {σ:St} {H:Hp} {R:V->V->Hp->Prop} (I:Inv X pins σ H s) (h:ta σ H fun x H1=>tb σ H1 fun y H2=>R x y H2)
  {α:Type} {Q:α->Shared->Prop} {f:Value->Value->Sem α}
  (hf:∀ v u s2 x y H2,Inv X pins σ H2 s2->RelV x v->RelV y u->R x y H2->wpAny (model X.prog X.w) X.A (f v u) Q X.xe s2) :
  wpAny (model X.prog X.w) X.A (eval a X.env) (fun v s₁=>wpAny (model X.prog X.w) X.A (eval b X.env) (fun u s₂=>wpAny (model X.prog X.w) X.A (f v u) Q X.xe s₂) X.xe s₁) X.xe s:=by
 refine thn (ha pins s σ H _ I h) fun v s1 ⟨x,H1,I1,r1,q1⟩=>?_
 refine thn (hb pins s1 σ H1 _ I1 q1) fun u s2 ⟨y,H2,I2,r2,q2⟩=>?_
 exact hf v u s2 x y H2 I2 r1 r2 q2
noncomputable def tVar (i:Nat):TE:=fun σ H Q=>∃ v,σ[i]?=some (some v)∧Q v H
noncomputable def tC (v:V):TE:=fun _ H Q=>Q v H
theorem Qi4 {i:Nat} {x:Str} {pos:Pos} (hN:X.N[i]?=some x) (hv:Vis X.env.scope x) (hd:(x == ("__debug__" : Str))=false:=by decide) (hcd:(x == ("__classdict__" : Str))=false:=by decide):PE X (.Name x pos) (tVar i):=by
 intro pins s σ H Q I h
 obtain⟨v,e,h⟩:=h
 obtain⟨m,hn,hl⟩:=I.loc
 obtain⟨u,r,l⟩:=hl i x v hN e hv
 have fin:EP X pins σ Q u s:=⟨v,H,I,r,h⟩
 rcases l with⟨hk,hm⟩ | ⟨hk,c,hc,hcell⟩
 ·exact wpAny_Name (wpAny_loadName_local I.ok.kind hk hn hm fin) hd
 ·rcases hk with hk | hk
  ·exact wpAny_Name (wpAny_loadName_cell I.ok.kind hk hc hcell fin) hd
  ·exact wpAny_Name (wpAny_loadName_free I.ok.kind hk hc hcell fin hcd) hd
theorem Qi5 {i j pos}:PE X (.Constant (.int i) j pos) (tC (.int i)):=fun _ _ _ H _ I h=>wpAny_Constant_int ⟨.int i,H,I.tok _,⟨_,rfl⟩,h⟩
theorem Qkz {b j pos}:PE X (.Constant (.bool b) j pos) (tC (.bl b)):=fun _ _ _ H _ I h=>Constant_bool ⟨.bl b,H,I,rfl,h⟩
theorem Qi6 {j pos}:PE X (.Constant .none j pos) (tC .non):=fun _ _ _ H _ I h=>Constant_none ⟨.non,H,I,rfl,h⟩
theorem Qi7 {x j pos}:PE X (.Constant (.str x) j pos) (tC (.str x)):=fun _ _ _ H _ I h=>Calls.Constant_str ⟨.str x,H,I.tok _,⟨_,rfl⟩,h⟩
noncomputable def Gl (X:Cx) (x:Str):Prop:=X.env.kindOf x=some .globalImplicit
theorem QbE {E:Value->Shared->Prop} {pins:List (Addr×Obj)} {s:Shared} {σ:St} {H:Hp} {x:Str} {u:Value} {pos:Pos} {Q:Value->Shared->Prop} (I:Inv X pins σ H s) (hg:Gl X x) (hm:X.mg x=some u) (h:Q u s)
  (hd:(x == ("__debug__" : Str))=false:=by decide):wpAny (model X.prog X.w) X.A (eval (.Name x pos) X.env) Q E s :=
 Calls.Name_function_global I.ok.kind hg (Calls.loadGlobal_global (by rw [I.ok.glob]; exact I.mod.glob.keeps I.bk) hm h) hd
theorem Qbh {E:Value->Shared->Prop} {pins:List (Addr×Obj)} {s:Shared} {σ:St} {H:Hp} {x:Str} {u:Value} {pos:Pos} {Q:Value->Shared->Prop} (I:Inv X pins σ H s) (hg:Gl X x) (hm:X.mg x=none) (hv:bootBuiltins x=some u) (h:Q u s)
  (hn:x ≠ "__name__":=by decide) (hd:(x == ("__debug__" : Str))=false:=by decide):wpAny (model X.prog X.w) X.A (eval (.Name x pos) X.env) Q E s:=by
 obtain⟨mb,h1,h2⟩:=I.mod.blt
 exact Calls.Name_function_global I.ok.kind hg (Calls.loadGlobal_builtin (by rw [I.ok.glob]; exact I.mod.glob.keeps I.bk) hm (by rw [I.ok.blt]; exact h1.keeps I.bk) ((h2 x hn).trans hv) h) hd
theorem QeS {x:Str} {v:V} {u:Value} {pos:Pos} (hg:Gl X x) (hm:X.mg x=some u) (r:RelV v u) (hd:(x == ("__debug__" : Str))=false:=by decide):PE X (.Name x pos) (tC v) :=
 fun _ _ _ H _ I h=>QbE I hg hm ⟨v,H,I,r,h⟩ hd
theorem QbF {x:Str} {v:V} {u:Value} {pos:Pos} (hg:Gl X x) (hm:X.mg x=none) (hv:bootBuiltins x=some u) (r:RelV v u) (hn:x ≠ "__name__":=by decide) (hd:(x == ("__debug__" : Str))=false:=by decide):PE X (.Name x pos) (tC v) :=
 fun _ _ _ H _ I h=>Qbh I hg hm hv ⟨v,H,I,r,h⟩ hn hd
variable {a b:Expr} {ta tb:TE} {pos:Pos}
noncomputable def tB (t:TE):TT:=fun σ H Q=>t σ H fun x H1=>∃ c,x=.bl c∧Q c H1
theorem Qi8 {e:Expr} {t:TE} (h:PE X e t) (he:∀ whole,isTrue e X.env whole=(do let v ← whole; standAt e.pos; holding [v] (truthy v)):=by intro _; rfl):PT X e (tB t):=by
 intro pins s σ H Q I hw
 refine isTrue_plain (thn (h pins s σ H _ I hw) fun v s1 ⟨x,H1,I1,r1,q1⟩=>?_) (he _)
 obtain⟨d,rfl,q⟩:=q1
 cases r1
 exact wpAny_truthy_bool ⟨H1,I1,q⟩
variable {tA tB':TT} {rest:List Expr}
noncomputable def tAnd (t u:TT):TT:=fun σ H Q=>t σ H fun c H1=>if c=true then u σ H1 Q else Q false H1
noncomputable def tOr (t u:TT):TT:=fun σ H Q=>t σ H fun c H1=>if c=true then Q true H1 else u σ H1 Q
noncomputable def tNot (t:TT):TT:=fun σ H Q=>t σ H fun c H1=>Q (!c) H1
theorem QhM (ha:PT X a tA):PW X (.BoolOp .And [a] pos) tA:=by
 intro wh pins s σ H Q I h
 refine isTrue_and (thn (ha pins s σ H Q I h) fun c s1 e=>?_)
 cases c with
 | true=>exact isTrue_and_nil e
 | false=>exact e
theorem Qi9 (ha:PT X a tA):PW X (.BoolOp .Or [a] pos) tA:=by
 intro wh pins s σ H Q I h
 refine isTrue_or (thn (ha pins s σ H Q I h) fun c s1 e=>?_)
 cases c with
 | false=>exact isTrue_or_nil e
 | true=>exact e
theorem Qja (ha:PT X a tA) (hb:PW X (.BoolOp .And (b::rest) pos) tB'):PW X (.BoolOp .And (a::b::rest) pos) (tAnd tA tB'):=by
 intro wh pins s σ H Q I h
 refine isTrue_and (thn (ha pins s σ H _ I h) fun c s1 ⟨H1,I1,q1⟩=>?_)
 cases c with
 | true=>exact hb wh pins s1 σ H1 Q I1 q1
 | false=>exact⟨H1,I1,q1⟩
theorem QkA (ha:PT X a tA) (hb:PW X (.BoolOp .Or (b::rest) pos) tB'):PW X (.BoolOp .Or (a::b::rest) pos) (tOr tA tB'):=by
 intro wh pins s σ H Q I h
 refine isTrue_or (thn (ha pins s σ H _ I h) fun c s1 ⟨H1,I1,q1⟩=>?_)
 cases c with
 | true=>exact⟨H1,I1,q1⟩
 | false=>exact hb wh pins s1 σ H1 Q I1 q1
theorem Qjb (ha:PT X a tA):PT X (.UnaryOp .Not a pos) (tNot tA):=by
 intro pins s σ H Q I h
 exact isTrue_not (ha pins s σ H (fun c H1=>Q (!c) H1) I h)
noncomputable def QkB (ta tb:TE):TE:=fun σ H Q=>ta σ H fun x H1=>∃ c,x=.bl c∧if c=true then tb σ H1 Q else Q (.bl false) H1
noncomputable def QkC (ta:TE):TE:=fun σ H Q=>ta σ H fun x H1=>∃ c,x=.bl c∧Q (.bl (!c)) H1
theorem Qjc {op} {t:TE} (h:PE X a t):PE X (.BoolOp op [a] pos) t:=fun pins s σ H Q I hw=>BoolOp_one (h pins s σ H Q I hw)
theorem Qjd (ha:PE X a ta) (hb:PE X (.BoolOp .And (b::rest) pos) tb):PE X (.BoolOp .And (a::b::rest) pos) (QkB ta tb):=by
 intro pins s σ H Q I h
 refine BoolOp_and (thn (ha pins s σ H _ I h) fun v s1 ⟨x,H1,I1,r1,q1⟩=>?_)
 obtain⟨c,rfl,q1⟩:=q1
 cases r1
 refine wpAny_truthy_bool ?_
 cases c with
 | true=>exact hb pins s1 σ H1 Q I1 q1
 | false=>exact⟨.bl false,H1,I1,rfl,q1⟩
theorem Qje (ha:PE X a ta):PE X (.UnaryOp .Not a pos) (QkC ta):=by
 intro pins s σ H Q I h
 refine UnaryOp_ (thn (ha pins s σ H _ I h) fun v s1 ⟨x,H1,I1,r1,q1⟩=>?_)
 obtain⟨c,rfl,q1⟩:=q1
 cases r1
 exact not_of (wpAny_truthy_bool ⟨.bl (!c),H1,I1,rfl,q1⟩)
noncomputable def tIf (t:TT) (ta tb:TE):TE:=fun σ H Q=>t σ H fun c H1=>if c=true then ta σ H1 Q else tb σ H1 Q
theorem Qgn {c:Expr} (hc:PT X c tA) (ha:PE X a ta) (hb:PE X b tb):PE X (.IfExp c a b pos) (tIf tA ta tb):=by
 intro pins s σ H Q I h
 refine wpAny_IfExp (thn (hc pins s σ H _ I h) fun d s1 ⟨H1,I1,q1⟩=>?_)
 cases d with
 | true=>exact ha pins s1 σ H1 Q I1 q1
 | false=>exact hb pins s1 σ H1 Q I1 q1
end
end L2
namespace L2
open PySem PySem.Spec PyProof.Rows
noncomputable def SqL (K:PySem.W.Frag) (H:Hp) (a:Addr) (xs:List V):Prop :=
 Rd H a (.lst xs) ∨
  ∃(o:Obj) (its:Array Value) (n:Nat),K.lookup a=some o∧o.cls=.type "list" ∧ o.dict=none∧o.data=.seq its n∧its.size≤sizeLine∧Vals xs its.toList
noncomputable def SqT (K:PySem.W.Frag) (H:Hp) (a:Addr) (xs:List V):Prop :=
 Rd H a (.tup xs) ∨
  ∃(o:Obj) (its:Array Value) (n:Nat),K.lookup a=some o∧o.cls=.type "tuple" ∧ o.data=.seq its n∧its.size≤sizeLine∧Vals xs its.toList
noncomputable def absV:Value->Option V
 | .none=>some .non
 | .bool b=>some (.bl b)
 | .int i _=>some (.int i)
 | .str x _=>some (.str x)
 | .bytes b _=>some (.byt b)
 | .float b _=>some (.flt b)
 | .ref a=>some (.ref a)
 | .type n=>some (.ty n)
 | _=>none
theorem RelV.abs {x:V} {u:Value} (r:RelV x u):absV u=some x:=by
 cases x with
 | non=>cases r; rfl
 | bl _=>cases r; rfl
 | int _=>obtain⟨t,rfl⟩:=r; rfl
 | str _=>obtain⟨t,rfl⟩:=r; rfl
 | byt _=>obtain⟨t,rfl⟩:=r; rfl
 | flt _=>obtain⟨t,rfl⟩:=r; rfl
 | ref _=>cases r; rfl
 | ty _=>cases r; rfl
theorem RelV.inj {x y:V} {u:Value} (r:RelV x u) (q:RelV y u):x=y:=Option.some.inj (r.abs.symm.trans q.abs)
theorem Vals.inj:∀ {xs ys:List V} {us:List Value},Vals xs us->Vals ys us->xs=ys
 | _,_,_,.nil,.nil=>rfl
 | _,_,_,.cons r t,.cons r' t'=>by rw [r.inj r',Vals.inj t t']
section
variable {X:Cx} {pins:List (Addr×Obj)} {σ:St} {H:Hp} {s:Shared} {a:Addr} {xs ys:List V}
theorem SqL.of {K:PySem.W.Frag} (h:H a=some (.lst xs)):SqL K H a xs:=.inl (.inl h)
theorem SqT.of {K:PySem.W.Frag} (h:H a=some (.tup xs)):SqT K H a xs:=.inl (.inl h)
theorem Inv.list (I:Inv X pins σ H s) (h:SqL X.K H a xs):∃ its:List Value,Vals xs its∧PlainL s.heap a its.toArray∧xs.length≤sizeLine:=by
 rcases h with h | ⟨o,its,n,hk,hc,hd,hs,hz,r⟩
 ·obtain⟨z,its,n,r,e⟩:=h.ok I.hok
  exact⟨its,r,⟨_,n,e,rfl,rfl,rfl⟩,z⟩
 ·refine⟨its.toList,r,⟨o,n,I.kIn a o hk,hc,hd,by simpa using hs⟩,?_⟩
  have e:=r.length
  simp only [Array.length_toList] at e
  omega
theorem Inv.tuple (I:Inv X pins σ H s) (h:SqT X.K H a xs):∃ its:List Value,Vals xs its∧IsTup s.heap a its.toArray∧xs.length≤sizeLine:=by
 rcases h with h | ⟨o,its,n,hk,hc,hs,hz,r⟩
 ·obtain⟨z,its,r,p⟩:=h.ok I.hok
  exact⟨its,r,p,z⟩
 ·refine⟨its.toList,r,⟨o,I.kIn a o hk,hc,n,by simpa using hs⟩,?_⟩
  have e:=r.length
  simp only [Array.length_toList] at e
  omega
theorem Inv.list_inj (I:Inv X pins σ H s) (h:SqL X.K H a xs) (h':SqL X.K H a ys):xs=ys:=by
 obtain⟨its,r,⟨o,n,e,_,_,d⟩,_⟩:=I.list h
 obtain⟨its',r',⟨o',n',e',_,_,d'⟩,_⟩:=I.list h'
 rw [e] at e'; cases e'
 rw [d] at d'
 injection d' with d1 _
 have:its=its':=by simpa using congrArg Array.toList d1
 subst this
 exact r.inj r'
theorem Inv.tuple_inj (I:Inv X pins σ H s) (h:SqT X.K H a xs) (h':SqT X.K H a ys):xs=ys:=by
 obtain⟨its,r,⟨o,e,_,n,d⟩,_⟩:=I.tuple h
 obtain⟨its',r',⟨o',e',_,n',d'⟩,_⟩:=I.tuple h'
 rw [e] at e'; cases e'
 rw [d] at d'
 injection d' with d1 _
 have:its=its':=by simpa using congrArg Array.toList d1
 subst this
 exact r.inj r'
end
noncomputable abbrev Cx.wish (X:Cx) (E:Value->Shared->Prop):Cx:={ X with xe:=E }
noncomputable abbrev Cx.nox (X:Cx):Cx:=X.wish fun _ _=>False
theorem Cx.Ok.wish {X:Cx} (ok:X.Ok) (E:Value->Shared->Prop):(X.wish E).Ok :=
 ⟨ok.mod,ok.kind,ok.glob,ok.blt,ok.above,ok.inj,ok.has,ok.cab,ok.hd,ok.frames,ok.stk,ok.exf,ok.bs,ok.bsz,ok.noex,ok.exfs,ok.funs,ok.frf⟩
theorem Cx.Ok.unwish {X:Cx} {E:Value->Shared->Prop} (ok:(X.wish E).Ok):X.Ok :=
 ⟨ok.mod,ok.kind,ok.glob,ok.blt,ok.above,ok.inj,ok.has,ok.cab,ok.hd,ok.frames,ok.stk,ok.exf,ok.bs,ok.bsz,ok.noex,ok.exfs,ok.funs,ok.frf⟩
section
variable {X:Cx} {pins:List (Addr×Obj)} {σ:St} {H:Hp} {s:Shared} {E:Value->Shared->Prop}
theorem Inv.wish (I:Inv X pins σ H s) (E:Value->Shared->Prop):Inv (X.wish E) pins σ H s:=⟨I.ok.wish E,I.os,I.bare,I.base,I.loc,I.cell,I.free,I.freeC,I.pin,I.hok,I.len⟩
theorem Inv.unwish (I:Inv (X.wish E) pins σ H s):Inv X pins σ H s:=⟨I.ok.unwish,I.os,I.bare,I.base,I.loc,I.cell,I.free,I.freeC,I.pin,I.hok,I.len⟩
theorem SP.unwish {D:Ends} {f:Flow} {s':Shared} (h:SP (X.wish E) pins D f s'):SP X pins D f s':=by
 cases f with
 | next=>obtain⟨σ',H',I,q⟩:=h; exact⟨σ',H',I.unwish,q⟩
 | brk=>obtain⟨σ',H',I,q⟩:=h; exact⟨σ',H',I.unwish,q⟩
 | cont=>obtain⟨σ',H',I,q⟩:=h; exact⟨σ',H',I.unwish,q⟩
 | ret u=>obtain⟨v,σ',H',I,r,q⟩:=h; exact⟨v,σ',H',I.unwish,r,q⟩
theorem PE.nox {e:Expr} {t:TE} (h:PE X.nox e t):PE X e t:=fun pins s σ H Q I hw =>
 wpAny_mono (h pins s σ H Q (I.wish _) hw) (fun _ _ ⟨v,H',I',r,q⟩=>⟨v,H',I'.unwish,r,q⟩) fun _ _ z=>False.elim z
theorem PT.nox {e:Expr} {t:TT} (h:PT X.nox e t):PT X e t:=fun pins s σ H Q I hw =>
 wpAny_mono (h pins s σ H Q (I.wish _) hw) (fun _ _ ⟨H',I',q⟩=>⟨H',I'.unwish,q⟩) fun _ _ z=>False.elim z
theorem PSs.nox {st:List Stmt} {t:TS} (h:PSs X.nox st t):PSs X st t:=fun pins s σ H D I hw =>
 wpAny_mono (h pins s σ H D (I.wish _) hw) (fun _ _ q=>q.unwish) fun _ _ z=>False.elim z
end
section
variable {X:Cx} {st:Stmt} {rest:List Stmt} {t u:TS} {e:Expr} {te:TE} {pos:Pos}
noncomputable def QkD:TS:=fun D σ H=>D.nx σ H
noncomputable def tSeq (t u:TS):TS:=fun D σ H=>t { D with nx:=u D } σ H
theorem QeT:PSs X [] QkD:=fun _ _ σ H _ I h=>wpAny_execs_nil ⟨σ,H,I,h⟩
theorem Qgo (h1:PS X st t) (h2:PSs X rest u):PSs X (st::rest) (tSeq t u):=by
 intro pins s σ H D I h
 refine wpAny_execs_cons (thn (h1 pins s σ H { D with nx:=u D } I h) fun f s1 q=>?_)
 cases f with
 | next =>
  obtain⟨σ',H',I',q⟩:=q
  exact h2 pins s1 σ' H' D I' q
 | ret v=>exact q
 | brk=>exact q
 | cont=>exact q
theorem QhN (h1:PS X st t):PSs X [st] t:=by
 intro pins s σ H D I h
 refine wpAny_execs_cons (thn (h1 pins s σ H D I h) fun f s1 q=>?_)
 cases f with
 | next=>exact wpAny_execs_nil q
 | ret v=>exact q
 | brk=>exact q
 | cont=>exact q
theorem Inv.quiet {pins:List (Addr×Obj)} {σ:St} {H:Hp} {s:Shared} (I:Inv X pins σ H s):interactive X.env=false:=by simp [interactive,I.ok.kind]
noncomputable def QkE (te:TE):TS:=fun D σ H=>te σ H fun _ H1=>D.nx σ H1
theorem QhO (he:PE X e te) (hs:swapsWith e none pos.line X.env=pure false:=by rfl):PS X (.Expr e pos) (QkE te):=by
 intro pins s σ H D I h
 exact wpAny_Expr_any (thn (he pins s σ H _ I h) fun v s1 ⟨x,H1,I1,r1,q1⟩=>⟨σ,H1,I1,q1⟩) I.quiet hs
noncomputable def tRet (te:TE):TS:=fun D σ H=>te σ H D.rt
theorem Qjf (he:PE X e te):PS X (.Return (some e) pos) (tRet te):=by
 intro pins s σ H D I h
 exact wpAny_Return_some (thn (he pins s σ H _ I h) fun v s1 ⟨x,H1,I1,r1,q1⟩=>⟨x,σ,H1,I1,r1,q1⟩)
noncomputable def tIfS (c:TT) (t u:TS):TS:=fun D σ H=>c σ H fun b H1=>if b=true then t D σ H1 else u D σ H1
theorem QkF {c:Expr} {a b:List Stmt} {tc:TT} (hc:PT X c tc) (ha:PSs X a t) (hb:PSs X b u):PS X (.If c a b pos) (tIfS tc t u):=by
 intro pins s σ H D I h
 refine wpAny_If (thn (hc pins s σ H _ I h) fun d s1 ⟨H1,I1,q1⟩=>?_)
 cases d with
 | true=>exact ha pins s1 σ H1 D I1 q1
 | false=>exact hb pins s1 σ H1 D I1 q1
end
noncomputable abbrev TG:=V->St->Hp->(St->Hp->Prop)->Prop
noncomputable abbrev TGs:=List V->St->Hp->(St->Hp->Prop)->Prop
noncomputable def PG (X:Cx) (target:Expr) (t:TG):Prop :=
 ∀(pins:List (Addr×Obj)) (s:Shared) (σ:St) (H:Hp) (v:V) (u:Value) (Q:St->Hp->Prop),Inv X pins σ H s->RelV v u->t v σ H Q ->
  wpAny (model X.prog X.w) X.A (assign target X.env u) (fun _ s'=>∃ σ' H',Inv X pins σ' H' s'∧Q σ' H') X.xe s
noncomputable def PGs (X:Cx) (ts:List Expr) (t:TGs):Prop :=
 ∀(pins:List (Addr×Obj)) (s:Shared) (σ:St) (H:Hp) (vs:List V) (us:List Value) (Q:St->Hp->Prop),Inv X pins σ H s->Vals vs us->t vs σ H Q ->
  wpAny (model X.prog X.w) X.A (assignInOrder ((assignEach ts X.env).map (·.2)) us) (fun _ s'=>∃ σ' H',Inv X pins σ' H' s'∧Q σ' H') X.xe s
noncomputable abbrev TSet:=V->V->V->Hp->(Hp->Prop)->Prop
noncomputable def PSet (X:Cx) (t:TSet):Prop :=
 ∀(pins:List (Addr×Obj)) (s:Shared) (σ:St) (H:Hp) (o i v:V) (ov iv u:Value) (Q:Hp->Prop),Inv X pins σ H s->RelV o ov->RelV i iv->RelV v u->t o i v H Q ->
  wpAny (model X.prog X.w) X.A (setItem ov iv u) (fun _ s'=>∃ H',Inv X pins σ H' s'∧Q H') X.xe s
section
variable {X:Cx} {pos:Pos}
noncomputable def Qjg (i:Nat):TG:=fun v σ H Q=>Q (σ.set i (some v)) H
theorem QhP {i:Nat} {x:Str} (hN:X.N.Nodup) (hi:X.N[i]?=some x) (hx:Loc X.env.scope x) (hf:X.fn x=true∨X.env.scope.names.lookup x=some .local:=by first | exact .inl rfl | exact .inr rfl | assumption):PG X (.Name x pos) (Qjg i):=by
 intro pins s σ H v u Q I r h
 exact wpAny_assign_Name (Qaf I hN hi hx r (fun s' I'=>⟨_,H,I',h⟩) hf)
noncomputable def gNil:TGs:=fun vs σ H Q=>vs=[]∧Q σ H
noncomputable def QkG (t:TG) (u:TGs):TGs:=fun vs σ H Q=>∃ v r,vs=v::r∧t v σ H fun σ' H'=>u r σ' H' Q
theorem QhQ:PGs X [] gNil:=by
 intro pins s σ H vs us Q I r h
 obtain⟨e,h⟩:=h
 subst e
 cases r
 exact assignInOrder_nil ⟨σ,H,I,h⟩
theorem Qgp {e:Expr} {es:List Expr} {t:TG} {u:TGs} (h1:PG X e t) (h2:PGs X es u)
  (hs:(assignEach (e::es) X.env).map (·.2)=assign e X.env::(assignEach es X.env).map (·.2):=by rfl):PGs X (e::es) (QkG t u):=by
 intro pins s σ H vs us Q I r h
 obtain⟨v,vr,e1,h⟩:=h
 subst e1
 cases r with
 | cons r rr =>
  rw [hs]
  refine assignInOrder_cons (thn (h1 pins s σ H _ _ _ I r h) fun _ s1 ⟨σ1,H1,I1,q1⟩=>?_)
  exact h2 pins s1 σ1 H1 _ _ Q I1 rr q1
noncomputable def gTup (K:PySem.W.Frag) (n:Nat) (t:TGs):TG:=fun v σ H Q=>∃ a xs,v=.ref a∧SqT K H a xs∧xs.length=n∧t xs σ H Q
theorem Qjh {es:List Expr} {k:Nat} {t:TGs} {n:Nat} (hc:X.calm=true) (h:PGs X es t)
  (hn:(assignEach es X.env).length=n:=by rfl) (hst:(assignEach es X.env).findIdx? (·.1)=none:=by rfl):PG X (.Tuple es k pos) (gTup X.K n t):=by
 intro pins s σ H v u Q I r hw
 obtain⟨a,xs,e1,hq,hl,hw⟩:=hw
 subst e1
 cases r
 obtain⟨its,rv,ht,hz⟩:=I.tuple hq
 refine assign_Tuple_tuple (I.ok.hd hc) ht (by simp [hn,← hl,rv.length]) hst fun h' hx=>?_
 have I1:Inv X pins σ H { s with heap:=h' }:=I.kept (t':=s.toks) fun b o e=>hx b o (Nat.ne_of_lt (Heap.lt_size e)) e
 exact h pins _ σ H xs _ Q I1 (by simpa using rv) hw
noncomputable def gSub (to ti:TE) (t:TSet):TG:=fun v σ H Q=>to σ H fun o H1=>ti σ H1 fun i H2=>t o i v H2 fun H3=>Q σ H3
theorem Qhk {o i:Expr} {to ti:TE} {t:TSet} (ho:PE X o to) (hi:PE X i ti) (hs:PSet X t)
  (ha:∀ v,assign (.Subscript o i pos) X.env v=(do
   let ov ← holding [v] (eval o X.env)
   let iv ← holding [v,ov] (eval i X.env)
   standAt pos
   holding [v,ov,iv] (setItem ov iv v)
   release [v,ov,iv] []):=by intro _; rfl):PG X (.Subscript o i pos) (gSub to ti t):=by
 intro pins s σ H v u Q I r h
 rw [ha]
 refine wpAny_bind (wpAny_holding (thn (ho pins s σ H _ I h) fun ov s1 ⟨x,H1,I1,r1,q1⟩=>?_))
 refine wpAny_bind (wpAny_holding (thn (hi pins s1 σ H1 _ I1 q1) fun iv s2 ⟨y,H2,I2,r2,q2⟩=>?_))
 refine wpAny_bind (wpAny_standAt (wpAny_bind (wpAny_holding (thn (hs pins s2 σ H2 x y v ov iv u _ I2 r1 r2 r q2) fun _ s3 ⟨H3,I3,q3⟩=>?_))))
 exact wpAny_release ⟨σ,H3,I3,q3⟩
noncomputable def tAsg (te:TE) (g:TG):TS:=fun D σ H=>te σ H fun x H1=>g x σ H1 D.nx
theorem QeU {tg e:Expr} {te:TE} {g:TG} (he:PE X e te) (hg:PG X tg g) (hs:swapsWithSole [tg] e pos.line X.env=pure false:=by rfl) (hw:swappedStores [tg] e X.env=pure none:=by rfl)
  (h1:(assignEach [tg] X.env).map (·.2)=[assign tg X.env]:=by rfl):PS X (.Assign [tg] e pos) (tAsg te g):=by
 intro pins s σ H D I h
 refine wpAny_Assign_stores (thn (he pins s σ H _ I h) fun v s1 ⟨x,H1,I1,r1,q1⟩=>?_) hs hw
 rw [h1]
 exact thn (hg pins s1 σ H1 x v _ I1 r1 q1) fun _ s2 q=>q
theorem Qji {i:Nat} {x:Str} {e:Expr} {te:TE} {pos':Pos} (hN:X.N.Nodup) (hi:X.N[i]?=some x) (hx:Loc X.env.scope x) (he:PE X e te) (hs:swapsWith e (some (.Name x pos')) pos.line X.env=pure false:=by rfl) (hf:X.fn x=true∨X.env.scope.names.lookup x=some .local:=by first | exact .inl rfl | exact .inr rfl | assumption) :
  PS X (.Assign [.Name x pos'] e pos) (tAsg te (Qjg i)):=by
 intro pins s σ H D I h
 refine wpAny_Assign_Name (thn (he pins s σ H _ I h) fun v s1 ⟨y,H1,I1,r1,q1⟩=>?_) hs
 exact Qaf I1 hN hi hx r1 (fun s2 I2=>⟨_,H1,I2,q1⟩) hf
end
section
variable {X:Cx} {pos:Pos}
noncomputable def Qjj (c:TT) (tb:TS):TS:=fun D σ H=>∃ W:Nat->St->Hp->Prop,(∃ m,W m σ H)∧∀ m σ H,W m σ H ->
 c σ H fun b H1=>if b=true then ∃ N:St->Hp->Prop,(∀ σ' H',N σ' H'->∃ m',m'<m∧W m' σ' H')∧tb { D with nx:=N,ct:=N,bk:=D.nx } σ H1 else D.nx σ H1
theorem Qgq {c:Expr} {body:List Stmt} {tc:TT} {tb:TS} (hp:PassesOwn (model X.prog X.w) X.A X.env X.xe) (hc:PT X c tc) (hb:PSs X body tb):PS X (.While c body [] pos) (Qjj tc tb):=by
 intro pins s σ H D I h
 obtain⟨W,⟨m0,w0⟩,turn⟩:=h
 refine wpAny_While (codeAny_whileLoop (fun n s'=>∃ σ' H',Inv X pins σ' H' s'∧W n σ' H') ?_ m0 ⟨σ,H,I,w0⟩)
 rintro n s1 ⟨σ1,H1,I1,w1⟩
 refine wpAny_passesOwn hp (thn (hc pins s1 σ1 H1 _ I1 (turn n σ1 H1 w1)) fun b s2 ⟨H2,I2,q2⟩=>?_)
 cases b with
 | true =>
  obtain⟨N,hN,q2⟩:=q2
  rw [if_pos rfl]
  refine wpAny_passesOwn hp (thn (hb pins s2 σ1 H2 _ I2 q2) fun f s3 q3=>?_)
  cases f with
  | next =>
   obtain⟨σ3,H3,I3,n3⟩:=q3
   obtain⟨m',hm,w3⟩:=hN σ3 H3 n3
   exact⟨m',hm,σ3,H3,I3,w3⟩
  | cont =>
   obtain⟨σ3,H3,I3,n3⟩:=q3
   obtain⟨m',hm,w3⟩:=hN σ3 H3 n3
   exact⟨m',hm,σ3,H3,I3,w3⟩
  | brk=>exact q3
  | ret v=>exact q3
 | false =>
  rw [if_neg Bool.false_ne_true]
  exact wpAny_execs_nil ⟨σ1,H2,I2,q2⟩
end
structure It where
 go:Nat->Hp->Prop
 yld:Nat->Hp->V->Hp->Prop
 stop:Nat->Hp->Prop
noncomputable def FpOk (X:Cx) (pins:List (Addr×Obj)) (H:Hp) (b:Addr):Prop :=
 H b=none∧b≠X.env.locals∧b∉X.fs∧(b∈X.ex∨X.s₀.heap.objs.size≤b)∧(∀ x c,X.env.cells.lookup x=some c->c≠b)∧∀ p∈X.pn++pins,p.1≠b
theorem Inv.fpOk {X:Cx} {pins:List (Addr×Obj)} {σ:St} {H H':Hp} {s:Shared} {b:Addr} (I:Inv X pins σ H s) (hb:s.heap.objs.size≤b) (hn:H' b=none):FpOk X pins H' b:=by
 refine⟨hn,Nat.ne_of_gt (Nat.lt_of_lt_of_le I.lt hb),I.nofs hb,.inr (Nat.le_trans I.sz hb),fun x c e z=>?_,fun p hp z=>?_⟩
 ·obtain⟨v,q⟩:=I.cell x c e
  exact absurd (Nat.lt_of_lt_of_le q.lt (by rw [z]; exact hb)) (Nat.lt_irrefl _)
 ·exact absurd (Nat.lt_of_lt_of_le (Heap.lt_size (I.pin p hp).1) (by rw [z]; exact hb)) (Nat.lt_irrefl _)
structure Turn (P:Program) (w:World) (K:PySem.W.Frag) (tg:Expr) (J:It) (fp:List Addr) (it:Addr) (tn:Nat->Heap->Prop):Prop where
 mem:it∈fp
 obj:∀ i h,tn i h->∀ b∈fp,∃ o,h.get? b=some o∧∀ v,o.data≠.cell v
 keep:∀ i h h',tn i h->(∀ b∈fp,∀ o,h.get? b=some o->h'.get? b=some o)->tn i h'
 item:∀(X:Cx),X.prog=P->X.w=w->X.K=K->X.calm=true->∀(i:Nat) (pins:List (Addr×Obj)) (s:Shared) (σ:St) (H:Hp) (E:Value->Shared->Prop),Inv X pins σ H s->(∀ b∈fp,FpOk X pins H b)->tn i s.heap->J.go i H ->
  wpAny (model P w) X.A (pyNext (.ref it)) (fun r s1=>∃ u,r=some u ∧
   wpAny (model P w) X.A (letOwnedTupleGo tg (.ref it) u) (fun _ s2=>∃ x H',Inv X pins σ H' s2∧RelV x u∧J.yld i H x H'∧tn (i+1) s2.heap∧∀ b∈fp,H' b=none) E s1) E s
 done:∀(X:Cx),X.prog=P->X.w=w->X.K=K->X.calm=true->∀(i:Nat) (pins:List (Addr×Obj)) (s:Shared) (σ:St) (H:Hp) (E:Value->Shared->Prop),Inv X pins σ H s->(∀ b∈fp,FpOk X pins H b)->tn i s.heap->J.stop i H ->
  wpAny (model P w) X.A (pyNext (.ref it)) (fun r s1=>r=none∧Inv X pins σ H s1) E s
 self:∀(A:Around) (i:Nat) (s:Shared) (Q:Value->Shared->Prop) (E:Value->Shared->Prop),tn i s.heap->Q (.ref it) s->wpAny (model P w) A (pyIter (.ref it)) Q E s
noncomputable abbrev TI:=St->Hp->(It->Hp->Prop)->Prop
noncomputable def PIE (X:Cx) (pins:List (Addr×Obj)) (σ:St) (tg:Expr) (R:It->Hp->Prop) (itv:Value) (s2:Shared):Prop :=
 ∃(it:Addr) (fp:List Addr) (tn:Nat->Heap->Prop) (J:It) (H':Hp),itv=.ref it∧Inv X pins σ H' s2∧Turn X.prog X.w X.K tg J fp it tn∧tn 0 s2.heap∧(∀ b∈fp,FpOk X pins H' b)∧R J H'
noncomputable def PI (X:Cx) (tg iter:Expr) (wi:TI):Prop :=
 ∀(pins:List (Addr×Obj)) (s:Shared) (σ:St) (H:Hp) (R:It->Hp->Prop),Inv X pins σ H s->wi σ H R ->
  wpAny (model X.prog X.w) X.A (eval iter X.env) (fun v s1=>wpAny (model X.prog X.w) X.A (pyIter v) (PIE X pins σ tg R) X.xe s1) X.xe s
theorem QhR {M:Model} {A:Around} {E:Value->Shared->Prop} {s:Shared} {tg:Expr} {it:Addr} {u:Value} {o:Obj} {n:String} {vs:Array Value} {Q:Unit->Shared->Prop} (ho:s.heap.get? it=some o) (hc:o.cls=.type n) (hd:o.data=.fields vs)
    (hn:["enumerate", "zip", "dict_itemiterator", "dict_reverseitemiterator", "odict_iterator", "itertools.zip_longest", "itertools.pairwise"].contains n=false) (hQ:Q () s):wpAny M A (letOwnedTupleGo tg (.ref it) u) Q E s:=by
  unfold letOwnedTupleGo
  cases tg <;> first
    | exact wpAny_pure hQ
    | (cases u <;> first
        | exact wpAny_pure hQ
        | (refine wpAny_bind (wpAny_load ho ?_)
           rw [hc,hd]
           show wpAny M A (if (["enumerate", "zip", "dict_itemiterator", "dict_reverseitemiterator", "odict_iterator", "itertools.zip_longest", "itertools.pairwise"].contains n && vs[0]? == some (rawInt _))=true then _ else _) Q E s
           rw [if_neg (by intro h; rw [hn,Bool.false_and] at h; cases h)]
           exact wpAny_pure hQ))
noncomputable def Itl (K:PySem.W.Frag) (a:Addr):It :=
 ⟨fun i H=>∃ xs x,SqL K H a xs∧xs[i]?=some x,fun i H x H'=>H'=H∧∀ xs,SqL K H a xs->xs[i]?=some x,fun i H=>∃ xs,SqL K H a xs∧xs.length≤i⟩
noncomputable def Itt (K:PySem.W.Frag) (a:Addr):It :=
 ⟨fun i H=>∃ xs x,SqT K H a xs∧xs[i]?=some x,fun i H x H'=>H'=H∧∀ xs,SqT K H a xs->xs[i]?=some x,fun i H=>∃ xs,SqT K H a xs∧xs.length≤i⟩
noncomputable def Itr (lo:Int) (n:Nat):It:=⟨fun i _=>i<n,fun i H x H'=>H'=H∧x=.int (lo+i),fun i _=>n≤i⟩
theorem QeV {P:Program} {w:World} {K:PySem.W.Frag} {tg:Expr} (a it:Addr):Turn P w K tg (Itl K a) [it] it (fun i h=>h.IsListIter it a i) where
 mem:=by simp
 obj:=fun i h st b hb=>by
  have e:b=it:=by simpa using hb
  subst e
  obtain⟨o,e,c,d⟩:=st
  exact⟨o,e,fun v z=>by rw [d] at z; cases z⟩
 keep:=fun i h h' st k=>st.at fun o e=>k it (by simp) o e
 item:=by
  intro X hP hw hK hc i pins s σ H E I hf st hg
  subst hP hw hK
  obtain⟨xs,x,hq,hx⟩:=hg
  obtain⟨its,rv,p,hz⟩:=I.list hq
  obtain⟨u,hu,ru⟩:=rv.get hx
  obtain⟨f0,f1,f2,f3,f4,f5⟩:=hf it (by simp)
  refine wpAny_pyNext_list_item st p.isList (x:=u) (by simpa using hu) fun h' st' sb=>?_
  have I1:Inv X pins σ H { s with heap:=h' }:=I.turned (t':=s.toks) (fun b o hb e=>(sb.2 b hb).trans e) f0 f1 f3 f4 f5
  obtain⟨o,e,c,d⟩:=id st'
  exact⟨u,rfl,QhR (s:={ s with heap:=h' }) e c d (by decide) ⟨x,H,I1,ru,⟨rfl,fun ys hy=>by rw [I.list_inj hy hq]; exact hx⟩,st',fun b hb=>(hf b hb).1⟩⟩
 done:=by
  intro X hP hw hK hc i pins s σ H E I hf st hg
  subst hP hw hK
  obtain⟨xs,hq,hx⟩:=hg
  obtain⟨its,rv,p,hz⟩:=I.list hq
  obtain⟨f0,f1,f2,f3,f4,f5⟩:=hf it (by simp)
  have hl:=rv.length
  exact wpAny_pyNext_list_end (I.ok.hd hc) st p.isList (by simp; omega) fun h' eb=>⟨rfl,I.turned (t':=s.toks) (fun b o hb e=>eb b o hb e) f0 f1 f3 f4 f5⟩
 self:=fun _ _ _ _ _ st h=>wpAny_pyIter_listiter st h
theorem Qee {P:Program} {w:World} {K:PySem.W.Frag} {tg:Expr} (a it:Addr):Turn P w K tg (Itt K a) [it] it (fun i h=>h.IsTupleIter it a i) where
 mem:=by simp
 obj:=fun i h st b hb=>by
  have e:b=it:=by simpa using hb
  subst e
  obtain⟨o,e,c,d⟩:=st
  exact⟨o,e,fun v z=>by rw [d] at z; cases z⟩
 keep:=fun i h h' st k=>st.at fun o e=>k it (by simp) o e
 item:=by
  intro X hP hw hK hc i pins s σ H E I hf st hg
  subst hP hw hK
  obtain⟨xs,x,hq,hx⟩:=hg
  obtain⟨its,rv,p,hz⟩:=I.tuple hq
  obtain⟨u,hu,ru⟩:=rv.get hx
  obtain⟨f0,f1,f2,f3,f4,f5⟩:=hf it (by simp)
  refine wpAny_pyNext_tuple_item st (show s.heap.IsTuple a its.toArray from p) (x:=u) (by simpa using hu) fun h' st' sb=>?_
  have I1:Inv X pins σ H { s with heap:=h' }:=I.turned (t':=s.toks) (fun b o hb e=>(sb.2 b hb).trans e) f0 f1 f3 f4 f5
  obtain⟨o,e,c,d⟩:=id st'
  exact⟨u,rfl,QhR (s:={ s with heap:=h' }) e c d (by decide) ⟨x,H,I1,ru,⟨rfl,fun ys hy=>by rw [I.tuple_inj hy hq]; exact hx⟩,st',fun b hb=>(hf b hb).1⟩⟩
 done:=by
  intro X hP hw hK hc i pins s σ H E I hf st hg
  subst hP hw hK
  obtain⟨xs,hq,hx⟩:=hg
  obtain⟨its,rv,p,hz⟩:=I.tuple hq
  obtain⟨f0,f1,f2,f3,f4,f5⟩:=hf it (by simp)
  have hl:=rv.length
  exact wpAny_pyNext_tuple_end (I.ok.hd hc) st (show s.heap.IsTuple a its.toArray from p) (by simp; omega) fun h' eb=>⟨rfl,I.turned (t':=s.toks) (fun b o hb e=>eb b o hb e) f0 f1 f3 f4 f5⟩
 self:=fun _ _ _ _ _ st h=>wpAny_pyIter_tupleiter st h
theorem Qef {P:Program} {w:World} {K:PySem.W.Frag} {tg:Expr} (it:Addr) (lo:Int) (n:Nat):Turn P w K tg (Itr lo n) [it] it (fun i h=>IsRangeIter h it (lo+(i:Nat)*1) ((n:Int) - (i:Nat)) 1) where
 mem:=by simp
 obj:=fun i h st b hb=>by
  have e:b=it:=by simpa using hb
  subst e
  exact⟨_,st,fun v z=>by
   have z':Data.fields _=Data.cell v:=z
   cases z'⟩
 keep:=fun i h h' st k=>k it (by simp) _ st
 item:=by
  intro X hP hw hK hc i pins s σ H E I hf st hg
  subst hP hw hK
  obtain⟨f0,f1,f2,f3,f4,f5⟩:=hf it (by simp)
  have W:=Walks.range (prog:=X.prog) (w:=X.w) (I.ok.hd hc) it lo 1 n
  refine W.item i s _ _ hg st fun v h' tk hv st' kk=>?_
  obtain⟨t,rfl⟩:=hv
  have I1:Inv X pins σ H { s with heap:=h',toks:=tk }:=I.turned (fun b o hb e=>kk b o (by simpa using hb) e) f0 f1 f3 f4 f5
  refine⟨_,rfl,QhR (s:={ s with heap:=h',toks:=tk }) (n:="range_iterator") st' rfl rfl (by decide) ⟨.int (lo+i),H,I1,⟨t,?_⟩,⟨rfl,rfl⟩,st',fun b hb=>(hf b hb).1⟩⟩
  rw [Int.mul_one]
 done:=by
  intro X hP hw hK hc i pins s σ H E I hf st hg
  subst hP hw hK
  obtain⟨f0,f1,f2,f3,f4,f5⟩:=hf it (by simp)
  exact wpAny_pyNext_range_end (I.ok.hd hc) st (by have:n≤i:=hg; omega) fun h' eb=>⟨rfl,I.turned (t':=s.toks) (fun b o hb e=>eb b o hb e) f0 f1 f3 f4 f5⟩
 self:=fun _ _ _ _ _ st h=>wpAny_pyIter_rangeiter st h
end L2
namespace L2
open PySem PySem.Spec PyProof.Rows
section
variable {X:Cx} {tg:Expr}
theorem Qgr {pins:List (Addr×Obj)} {σ:St} {H:Hp} {s:Shared} {R:It->Hp->Prop} {E:Value->Shared->Prop} {lo hi:Int} {t u v:Tok} {tk:Nat} (I:Inv X pins σ H s) (h1:-(2 ^ 62)≤lo) (h2:lo<2 ^ 62) (h3:-(2 ^ 62)≤hi) (h4:hi<2 ^ 62)
  (q:R (Itr lo (hi - lo).toNat) H):wpAny (model X.prog X.w) X.A (pyIter (.ref s.heap.objs.size)) (PIE X pins σ tg R) E { s with heap:=s.heap.push { cls:=.type "range",data:=.fields #[.int lo t,.int hi u,.int 1 v] },toks:=tk }:=by
 refine wpAny_pyIter_range (IsRange.new ..) (small_one h1 h2 h3 h4) ?_
 have I1:Inv X pins σ H { s with heap:=s.heap.push { cls:=.type "range",data:=.fields #[.int lo t,.int hi u,.int 1 v] },toks:=tk }:=I.kept fun b o e=>Heap.get?_push_of_some _ e
 refine⟨(s.heap.push { cls:=.type "range",data:=.fields #[.int lo t,.int hi u,.int 1 v] }).objs.size,[(s.heap.push { cls:=.type "range",data:=.fields #[.int lo t,.int hi u,.int 1 v] }).objs.size],_,_,H,rfl,
  I1.kept (t':=tk) fun b o e=>Heap.get?_push_of_some _ e,Qef _ lo (hi - lo).toNat,?_,fun b hb=>?_,q⟩
 ·have e1:lo+((0:Nat):Int)*1=lo:=by simp
  have e2:(((hi - lo).toNat:Nat):Int) - ((0:Nat):Int)=Builtin.Range.rangeSize lo hi 1:=by rw [rangeSize_one]; split <;> omega
  show IsRangeIter _ _ (lo+((0:Nat):Int)*1) ((((hi - lo).toNat:Nat):Int) - ((0:Nat):Int)) 1
  rw [e1,e2]
  exact Heap.get?_push_size _ rfl
 ·have e:b=(s.heap.push { cls:=.type "range",data:=.fields #[.int lo t,.int hi u,.int 1 v] }).objs.size:=by simpa using hb
  subst e
  exact I1.fpOk (Nat.le_refl _) (I1.hok.fresh (Nat.le_refl _))
noncomputable def QkH (ta:TA):TI:=fun σ H R=>ta σ H fun vs H1=>∃ j:Int,vs=[.int j] ∧ -(2 ^ 62)≤j∧j<2 ^ 62∧R (Itr 0 j.toNat) H1
theorem QeW {a:Expr} {ta:TA} {p pos:Pos} (hg:Gl X "range") (hm:X.mg "range" = none) (ha:PA X [a] ta) (hs:starEach [a] X.env=[(false,eval a X.env)]:=by rfl):PI X tg (.Call (.Name "range" p) [a] [] pos) (QkH ta):=by
 intro pins s σ H R I h
 refine Call_ (Qbh I hg hm boot_range (PyProof.Rows.callWith_type1 (thn (ha pos pins s σ H _ I h) fun us s1 ⟨vs,H1,I1,r1,q1⟩=>?_) hs rfl))
 obtain⟨j,e,q1,q2,q⟩:=q1
 subst e
 cases r1 with
 | cons r rr =>
  cases rr
  obtain⟨t,rfl⟩:=r
  exact call_range_1 (Qgr I1 (by omega) (by omega) q1 q2 (by simpa using q))
noncomputable def tFor (wi:TI) (g:TG) (tb:TS):TS:=fun D σ H=>wi σ H fun J H1=>∃ W:Nat->Nat->St->Hp->Prop,(∃ m,W 0 m σ H1)∧∀ i m σ H,W i m σ H ->
 (J.stop i H∧D.nx σ H)∨(J.go i H∧∃ N:St->Hp->Prop,(∀ σ' H',N σ' H'->∃ m',m'<m∧W (i+1) m' σ' H')∧∀ x H',J.yld i H x H'->g x σ H' fun σ2 H2=>tb { D with nx:=N,ct:=N,bk:=D.nx } σ2 H2)
noncomputable def Qck (fp:List Addr) (h:Heap):List (Addr×Obj):=fp.filterMap fun b=>(h.get? b).map fun o=>(b,o)
theorem Y0 {fp:List Addr} {h:Heap} {b:Addr} {o:Obj} (hb:b∈fp) (e:h.get? b=some o):(b,o)∈Qck fp h:=List.mem_filterMap.mpr ⟨b,hb,by rw [e]; rfl⟩
theorem QeX {fp:List Addr} {h:Heap} {p:Addr×Obj} (hp:p∈Qck fp h):p.1∈fp∧h.get? p.1=some p.2:=by
 obtain⟨b,hb,e⟩:=List.mem_filterMap.mp hp
 cases q:h.get? b with
 | none=>rw [q] at e; cases e
 | some o =>
  rw [q] at e
  have e':(b,o)=p:=Option.some.inj e
  subst e'
  exact⟨hb,q⟩
theorem Inv.pinned {pins:List (Addr×Obj)} {σ:St} {H:Hp} {s:Shared} {fp:List Addr} (I:Inv X pins σ H s) (hf:∀ b∈fp,FpOk X pins H b) (ho:∀ b∈fp,∃ o,s.heap.get? b=some o∧∀ v,o.data≠.cell v):Inv X (pins++Qck fp s.heap) σ H s :=
 I.pins_of fun p hp=>(List.mem_append.mp hp).elim (fun z=>I.pin p (List.mem_append_right _ z)) fun z=>by
  obtain⟨hb,e⟩:=QeX z
  obtain⟨f0,f1,f2,_⟩:=hf p.1 hb
  obtain⟨o,e',d⟩:=ho p.1 hb
  rw [e] at e'; cases e'
  exact⟨e,f0,f1,f2,d⟩
theorem Inv.unpinned {pins pl:List (Addr×Obj)} {σ:St} {H:Hp} {s:Shared} (I:Inv X (pins++pl) σ H s):Inv X pins σ H s:=I.pins_of fun p hp=>I.pin p (List.mem_append_right _ (List.mem_append_left _ hp))
theorem Qjk {iter:Expr} {body:List Stmt} {wi:TI} {g:TG} {tb:TS} {pos:Pos} (hp:PassesOwn (model X.prog X.w) X.A X.env X.xe) (hc:X.calm=true) (hi:PI X tg iter wi) (hg:PG X tg g) (hb:PSs X body tb)
  (hs:∀ x,foldedSetIterable iter X.env x=pure x:=by intro _; rfl):PS X (.For tg iter body [] pos) (tFor wi g tb):=by
 intro pins s σ H D I h
 refine wpAny_For (thn (hi pins s σ H _ I h) fun v s1 h1=>thn h1 fun itv s2 h2=>?_) hs
 obtain⟨it,fp,tn,J,H2,e,I2,T,st2,f2,W,⟨m0,w0⟩,turn⟩:=h2
 subst e
 -- what stays true of the iterator's objects through the loop
 have stat:∀ {H':Hp},(∀ b∈fp,H' b=none)->∀ b∈fp,FpOk X pins H' b:=fun hn b hb=>⟨hn b hb,(f2 b hb).2⟩
 refine codeAny_forLoop_any (fun n s'=>∃ i σ' H',Inv X pins σ' H' s'∧tn i s'.heap∧(∀ b∈fp,H' b=none)∧W i n σ' H') ?_ m0 ⟨0,σ,H2,I2,st2,fun b hb=>(f2 b hb).1,w0⟩
 rintro n s3 ⟨i,σ3,H3,I3,st3,fr3,w3⟩
 rcases turn i n σ3 H3 w3 with⟨stop,qn⟩ | ⟨go,N,hN,step⟩
 ·refine wpAny_passesOwn hp (thn (T.done X rfl rfl rfl hc i pins s3 σ3 H3 X.xe I3 (stat fr3) st3 stop) fun r s4 ⟨hr,I4⟩=>?_)
  subst hr
  exact wpAny_execs_nil ⟨σ3,H3,I4,qn⟩
 ·refine wpAny_passesOwn hp (thn (T.item X rfl rfl rfl hc i pins s3 σ3 H3 X.xe I3 (stat fr3) st3 go) fun r s4 ⟨u,hr,h4⟩=>?_)
  subst hr
  refine wpAny_passesOwn hp (thn h4 fun _ s5 ⟨x,H5,I5,r5,y5,st5,fr5⟩=>?_)
  have I5':=I5.pinned (stat fr5) (T.obj _ _ st5)
  refine wpAny_passesOwn hp (thn (hg _ s5 σ3 H5 x u _ I5' r5 (step x H5 y5)) fun _ s6 ⟨σ6,H6,I6,q6⟩=>?_)
  refine wpAny_passesOwn hp (thn (hb _ s6 σ6 H6 _ I6 q6) fun f s7 q7=>?_)
  have again:∀ {σ7:St} {H7:Hp},Inv X (pins++Qck fp s5.heap) σ7 H7 s7->N σ7 H7->∃ m,m<n∧∃ i σ' H',Inv X pins σ' H' s7∧tn i s7.heap∧(∀ b∈fp,H' b=none)∧W i m σ' H':=fun {σ7 H7} I7 n7=>by
   obtain⟨m',hm,w7⟩:=hN σ7 H7 n7
   refine⟨m',hm,i+1,σ7,H7,I7.unpinned,T.keep _ _ _ st5 fun b hb o e=>(I7.pin (b,o) (List.mem_append_right _ (List.mem_append_right _ (Y0 hb e)))).1,fun b hb=>?_,w7⟩
   obtain⟨o,e,d⟩:=T.obj _ _ st5 b hb
   exact(I7.pin (b,o) (List.mem_append_right _ (List.mem_append_right _ (Y0 hb e)))).2.1
  cases f with
  | next=>obtain⟨σ7,H7,I7,n7⟩:=q7; exact again I7 n7
  | cont=>obtain⟨σ7,H7,I7,n7⟩:=q7; exact again I7 n7
  | brk=>obtain⟨σ7,H7,I7,q7⟩:=q7; exact⟨σ7,H7,I7.unpinned,q7⟩
  | ret v=>obtain⟨x7,σ7,H7,I7,r7,q7⟩:=q7; exact⟨x7,σ7,H7,I7.unpinned,r7,q7⟩
end
end L2
namespace L2
open PySem PySem.Spec PyProof.Rows
noncomputable abbrev R2:=V->V->Hp->VK->Prop
noncomputable def OpR (X:Cx) (f:Value->Value->Sem Value) (r:R2):Prop :=
 ∀(pins:List (Addr×Obj)) (s:Shared) (σ:St) (H:Hp) (x y:V) (v u:Value) (Q:VK),Inv X pins σ H s->RelV x v->RelV y u->r x y H Q ->
  wpAny (model X.prog X.w) X.A (f v u) (EP X pins σ Q) X.xe s
noncomputable def UnR (X:Cx) (f:Value->Sem Value) (r:V->Hp->VK->Prop):Prop :=
 ∀(pins:List (Addr×Obj)) (s:Shared) (σ:St) (H:Hp) (x:V) (v:Value) (Q:VK),Inv X pins σ H s->RelV x v->r x H Q ->
  wpAny (model X.prog X.w) X.A (f v) (EP X pins σ Q) X.xe s
noncomputable def CallR (X:Cx) (f:Value) (r:List V->Hp->VK->Prop):Prop :=
 ∀(pins:List (Addr×Obj)) (s:Shared) (σ:St) (H:Hp) (xs:List V) (us:List Value) (Q:VK),Inv X pins σ H s->Vals xs us->r xs H Q ->
  wpAny (model X.prog X.w) X.A (call f us) (EP X pins σ Q) X.xe s
noncomputable def tOp (r:R2) (ta tb:TE):TE:=fun σ H Q=>ta σ H fun x H1=>tb σ H1 fun y H2=>r x y H2 Q
noncomputable def tUn (r:V->Hp->VK->Prop) (ta:TE):TE:=fun σ H Q=>ta σ H fun x H1=>r x H1 Q
noncomputable def rI (C:Int->Int->Prop) (g:Int->Int->V):R2:=fun x y H Q=>∃ i j,x=.int i∧y=.int j∧C i j∧Q (g i j) H
noncomputable def rI0 (g:Int->Int->V):R2:=fun x y H Q=>∃ i j,x=.int i∧y=.int j∧Q (g i j) H
noncomputable def rU (g:Int->V):V->Hp->VK->Prop:=fun x H Q=>∃ i,x=.int i∧Q (g i) H
section
variable {X:Cx} {a b c:Expr} {ta tb tc:TE} {pos:Pos}
theorem binT (ha:PE X a ta) (hb:PE X b tb) {pins:List (Addr×Obj)} {s:Shared} {σ:St} {H:Hp} {R:V->V->Hp->Prop} (I:Inv X pins σ H s)
  (h:ta σ H fun x H1=>tb σ H1 fun y H2=>R x y H2) {Q:Value->Shared->Prop} {f:Value->Value->Sem Value}
  (hf:∀ v u s2 x y H2,Inv X pins σ H2 s2->RelV x v->RelV y u->R x y H2->wpAny (model X.prog X.w) X.A (f v u) Q X.xe s2) :
  wpAny (model X.prog X.w) X.A (eval a X.env) (fun v s₁=>wpAny (model X.prog X.w) X.A (eval b X.env) (fun u s₂=>wpAny (model X.prog X.w) X.A (f v u) Q X.xe s₂) X.xe s₁) X.xe s:=by
 refine thn (ha pins s σ H _ I h) fun v s1 ⟨x,H1,I1,r1,q1⟩=>?_
 refine thn (hb pins s1 σ H1 _ I1 q1) fun u s2 ⟨y,H2,I2,r2,q2⟩=>?_
 exact hf v u s2 x y H2 I2 r1 r2 q2
theorem QkI {op:Operator} {r:R2} (ho:OpR X (binaryOp op) r) (ha:PE X a ta) (hb:PE X b tb):PE X (.BinOp a op b pos) (tOp r ta tb):=by
 intro pins s σ H Q I h
 exact wpAny_BinOp (binT ha hb I h fun v u s2 x y H2 I2 rx ry q=>ho pins s2 σ H2 x y v u Q I2 rx ry q)
theorem QkJ {op:UnaryOp} {r:V->Hp->VK->Prop} (ho:UnR X (unaryOp op) r) (ha:PE X a ta):PE X (.UnaryOp op a pos) (tUn r ta):=by
 intro pins s σ H Q I h
 exact UnaryOp_ (thn (ha pins s σ H _ I h) fun v s1 ⟨x,H1,I1,r1,q1⟩=>ho pins s1 σ H1 x v Q I1 r1 q1)
theorem opI {f:Value->Value->Sem Value} {C:Int->Int->Prop} {g:Int->Int->Int}
  (rule:∀(i j:Int) (t u:Tok) (s:Shared) (Q:Value->Shared->Prop) (E:Value->Shared->Prop),C i j->Q (.int (g i j) s.toks) { s with toks:=s.toks+1 }->wpAny (model X.prog X.w) X.A (f (.int i t) (.int j u)) Q E s) :
  OpR X f (rI C fun i j=>.int (g i j)):=by
 intro pins s σ H x y v u Q I rx ry h
 obtain⟨i,j,rfl,rfl,hc,q⟩:=h
 obtain⟨t,rfl⟩:=rx
 obtain⟨t',rfl⟩:=ry
 exact rule i j t t' s _ _ hc ⟨.int (g i j),H,I.tok _,⟨_,rfl⟩,q⟩
theorem opI0 {f:Value->Value->Sem Value} {g:Int->Int->Int}
  (rule:∀(i j:Int) (t u:Tok) (s:Shared) (Q:Value->Shared->Prop) (E:Value->Shared->Prop),Q (.int (g i j) s.toks) { s with toks:=s.toks+1 }->wpAny (model X.prog X.w) X.A (f (.int i t) (.int j u)) Q E s) :
  OpR X f (rI0 fun i j=>.int (g i j)):=by
 intro pins s σ H x y v u Q I rx ry h
 obtain⟨i,j,rfl,rfl,q⟩:=h
 obtain⟨t,rfl⟩:=rx
 obtain⟨t',rfl⟩:=ry
 exact rule i j t t' s _ _ ⟨.int (g i j),H,I.tok _,⟨_,rfl⟩,q⟩
theorem opB0 {f:Value->Value->Sem Value} {g:Int->Int->Bool}
  (rule:∀(i j:Int) (t u:Tok) (s:Shared) (Q:Value->Shared->Prop) (E:Value->Shared->Prop),Q (.bool (g i j)) s->wpAny (model X.prog X.w) X.A (f (.int i t) (.int j u)) Q E s) :
  OpR X f (rI0 fun i j=>.bl (g i j)):=by
 intro pins s σ H x y v u Q I rx ry h
 obtain⟨i,j,rfl,rfl,q⟩:=h
 obtain⟨t,rfl⟩:=rx
 obtain⟨t',rfl⟩:=ry
 exact rule i j t t' s _ _ ⟨.bl (g i j),H,I,rfl,q⟩
noncomputable def CDiv (i j:Int):Prop:=0<j∧j<1073741824
noncomputable def CMul (i j:Int):Prop:=(-(2 ^ 64)<i∧i<2 ^ 64)∨(-(2 ^ 64)<j∧j<2 ^ 64)
theorem CMul.ok {i j:Int} (h:CMul i j):IntMulOk i j:=by
 rcases h with⟨h1,h2⟩ | ⟨h1,h2⟩
 ·exact .of_left (intBits_le_64 h1 h2)
 ·exact .of_right (intBits_le_64 h1 h2)
theorem op_add:OpR X (binaryOp .Add) (rI0 fun i j=>.int (i+j)):=opI0 fun _ _ _ _ _ _ _ q=>add_int q
theorem Qjl:OpR X (binaryOp .Sub) (rI0 fun i j=>.int (i - j)):=opI0 fun _ _ _ _ _ _ _ q=>sub_int q
theorem op_mul:OpR X (binaryOp .Mult) (rI CMul fun i j=>.int (i*j)):=opI fun _ _ _ _ _ _ _ hc q=>mul_int q hc.ok
theorem QhS:OpR X (binaryOp .FloorDiv) (rI CDiv fun i j=>.int (i / j)):=opI fun i j _ _ _ _ _ hc q=>by
 have h1:(0:Int)<j:=hc.1
 have h2:j<1073741824:=hc.2
 exact floordiv_int (by omega) (by rw [Int.fdiv_eq_ediv_of_nonneg i (by omega)]; exact q) (.inl (PyProof.noPylong_small (by omega)))
theorem Qjm:OpR X (binaryOp .Mod) (rI (fun _ j=>0<j) fun i j=>.int (i % j)):=opI fun i j _ _ _ _ _ hc q=>by
 have h1:(0:Int)<j:=hc
 exact mod_int' (by omega) (by rw [Int.fmod_eq_emod_of_nonneg i (by omega)]; exact q)
theorem unI {f:Value->Sem Value} {g:Int->Int}
  (rule:∀(i:Int) (t:Tok) (s:Shared) (Q:Value->Shared->Prop) (E:Value->Shared->Prop),Q (.int (g i) s.toks) { s with toks:=s.toks+1 }->wpAny (model X.prog X.w) X.A (f (.int i t)) Q E s) :
  UnR X f (rU fun i=>.int (g i)):=by
 intro pins s σ H x v Q I rx h
 obtain⟨i,rfl,q⟩:=h
 obtain⟨t,rfl⟩:=rx
 exact rule i t s _ _ ⟨.int (g i),H,I.tok _,⟨_,rfl⟩,q⟩
theorem Qjn:UnR X (unaryOp .USub) (rU fun i=>.int (-i)):=unI fun _ _ _ _ _ q=>neg_int q
end
noncomputable def scal:V->V->Bool
 | .non,.non=>true | .non,.int _=>true | .int _,.non=>true | .non,.bl _=>true | .bl _,.non=>true | .non,.str _=>true | .str _,.non=>true
 | .int _,.int _=>true | .bl _,.bl _=>true | .str _,.str _=>true | .byt _,.byt _=>true
 | .int _,.str _=>true | .str _,.int _=>true | .bl _,.str _=>true | .str _,.bl _=>true
 | _,_=>false
noncomputable def rEq:R2:=fun x y H Q=>scal x y=true∧Q (.bl (decide (x=y))) H
noncomputable def rNe:R2:=fun x y H Q=>scal x y=true∧Q (.bl (!decide (x=y))) H
theorem QbG {i j:Int}:decide (V.int i=V.int j)=(i == j):=by
 rw [Bool.eq_iff_iff]
 simp
theorem Qdz {i j:Bool}:decide (V.bl i=V.bl j)=(i == j):=by
 rw [Bool.eq_iff_iff]
 simp
theorem Qc5 {i j:Str}:decide (V.str i=V.str j)=(i == j):=by
 rw [Bool.eq_iff_iff]
 simp
theorem QeY {i j:Array UInt8}:decide (V.byt i=V.byt j)=(i.toList == j.toList):=by
 rw [Bool.eq_iff_iff]
 cases i
 cases j
 simp
section
variable {X:Cx} {a b c:Expr} {ta tb tc:TE} {pos:Pos}
theorem QN {pins:List (Addr×Obj)} {σ:St} {H:Hp} {s:Shared} {Q:VK} {k k':Bool} (I:Inv X pins σ H s) (q:Q (.bl k) H) (e:k=k'):EP X pins σ Q (.bool k') s:=by
 subst e
 exact⟨.bl k,H,I,rfl,q⟩
theorem op_eq:OpR X (compareOp .Eq) rEq:=by
 intro pins s σ H x y v u Q I rx ry h
 obtain⟨hs,q⟩:=h
 cases x with
 | non =>
  cases rx
  cases y with
  | non=>cases ry; exact PySem.EqNone.eq_none_none (QN I q (by simp))
  | bl j=>cases ry; exact PySem.EqNone.eq_none_bool (QN I q (by simp))
  | int j=>obtain⟨t',rfl⟩:=ry; exact PySem.EqNone.eq_none_int (QN I q (by simp))
  | str j=>obtain⟨t',rfl⟩:=ry; exact PySem.EqNone.eq_none_str (QN I q (by simp))
  | _=>exact absurd (show false=true from hs) Bool.false_ne_true
 | bl i =>
  cases rx
  cases y with
  | non=>cases ry; exact PySem.EqNone.eq_bool_none (QN I q (by simp))
  | bl j=>cases ry; exact eq_bool (QN I q Qdz)
  | str j=>obtain⟨t',rfl⟩:=ry; exact PySem.EqMixed.eq_bool_str (QN I q (by simp))
  | _=>exact absurd (show false=true from hs) Bool.false_ne_true
 | int i =>
  obtain⟨t,rfl⟩:=rx
  cases y with
  | non=>cases ry; exact PySem.EqNone.eq_int_none (QN I q (by simp))
  | int j=>obtain⟨t',rfl⟩:=ry; exact eq_int (QN I q QbG)
  | str j=>obtain⟨t',rfl⟩:=ry; exact PySem.EqMixed.eq_int_str (QN I q (by simp))
  | _=>exact absurd (show false=true from hs) Bool.false_ne_true
 | str i =>
  obtain⟨t,rfl⟩:=rx
  cases y with
  | non=>cases ry; exact PySem.EqNone.eq_str_none (QN I q (by simp))
  | bl j=>cases ry; exact PySem.EqMixed.eq_str_bool (QN I q (by simp))
  | int j=>obtain⟨t',rfl⟩:=ry; exact PySem.EqMixed.eq_str_int (QN I q (by simp))
  | str j=>obtain⟨t',rfl⟩:=ry; exact eq_str (QN I q Qc5)
  | _=>exact absurd (show false=true from hs) Bool.false_ne_true
 | byt i =>
  obtain⟨t,rfl⟩:=rx
  cases y with
  | byt j=>obtain⟨t',rfl⟩:=ry; exact PySem.W.eq_bytes (QN I q QeY)
  | _=>exact absurd (show false=true from hs) Bool.false_ne_true
 | _=>cases y <;> exact absurd (show false=true from hs) Bool.false_ne_true
theorem op_ne:OpR X (compareOp .NotEq) rNe:=by
 intro pins s σ H x y v u Q I rx ry h
 obtain⟨hs,q⟩:=h
 cases x with
 | non =>
  cases rx
  cases y with
  | non=>cases ry; exact PySem.EqNone.ne_none_none (QN I q (by simp))
  | bl j=>cases ry; exact PySem.EqNone.ne_none_bool (QN I q (by simp))
  | int j=>obtain⟨t',rfl⟩:=ry; exact PySem.EqNone.ne_none_int (QN I q (by simp))
  | str j=>obtain⟨t',rfl⟩:=ry; exact PySem.EqNone.ne_none_str (QN I q (by simp))
  | _=>exact absurd (show false=true from hs) Bool.false_ne_true
 | bl i =>
  cases rx
  cases y with
  | non=>cases ry; exact PySem.EqNone.ne_bool_none (QN I q (by simp))
  | bl j=>cases ry; exact ne_bool (QN I q (congrArg not Qdz))
  | str j=>obtain⟨t',rfl⟩:=ry; exact PySem.EqMixed.ne_bool_str (QN I q (by simp))
  | _=>exact absurd (show false=true from hs) Bool.false_ne_true
 | int i =>
  obtain⟨t,rfl⟩:=rx
  cases y with
  | non=>cases ry; exact PySem.EqNone.ne_int_none (QN I q (by simp))
  | int j=>obtain⟨t',rfl⟩:=ry; exact ne_int (QN I q (congrArg not QbG))
  | str j=>obtain⟨t',rfl⟩:=ry; exact PySem.EqMixed.ne_int_str (QN I q (by simp))
  | _=>exact absurd (show false=true from hs) Bool.false_ne_true
 | str i =>
  obtain⟨t,rfl⟩:=rx
  cases y with
  | non=>cases ry; exact PySem.EqNone.ne_str_none (QN I q (by simp))
  | bl j=>cases ry; exact PySem.EqMixed.ne_str_bool (QN I q (by simp))
  | int j=>obtain⟨t',rfl⟩:=ry; exact PySem.EqMixed.ne_str_int (QN I q (by simp))
  | str j=>obtain⟨t',rfl⟩:=ry; exact ne_str (QN I q (congrArg not Qc5))
  | _=>exact absurd (show false=true from hs) Bool.false_ne_true
 | byt i =>
  obtain⟨t,rfl⟩:=rx
  cases y with
  | byt j=>obtain⟨t',rfl⟩:=ry; exact PySem.W.ne_bytes (QN I q (congrArg not QeY))
  | _=>exact absurd (show false=true from hs) Bool.false_ne_true
 | _=>cases y <;> exact absurd (show false=true from hs) Bool.false_ne_true
theorem QkK:OpR X (compareOp .Lt) (rI0 fun i j=>.bl (decide (i<j))):=opB0 fun _ _ _ _ _ _ _ q=>lt_int q
theorem Qjo:OpR X (compareOp .Gt) (rI0 fun i j=>.bl (decide (j<i))):=opB0 fun _ _ _ _ _ _ _ q=>gt_int q
theorem QkL:OpR X (compareOp .GtE) (rI0 fun i j=>.bl (decide (j≤i))):=opB0 fun _ _ _ _ _ _ _ q=>ge_int q
theorem Qjp:OpR X (compareOp .Is) (fun x y H Q=>y=.non∧Q (.bl (decide (x=.non))) H):=by
 intro pins s σ H x y v u Q I rx ry h
 obtain⟨rfl,q⟩:=h
 cases ry
 refine is_none_gen (QN I q ?_)
 cases x <;> first
  | (cases rx; rfl)
  | (obtain⟨t,rfl⟩:=rx; rfl)
theorem OpR.or {f:Value->Value->Sem Value} {r r':R2} (h:OpR X f r) (h':OpR X f r'):OpR X f (fun x y H Q=>r x y H Q∨r' x y H Q):=by
 intro pins s σ H x y v u Q I rx ry q
 rcases q with q | q
 ·exact h pins s σ H x y v u Q I rx ry q
 ·exact h' pins s σ H x y v u Q I rx ry q
theorem J4 (b:Expr) {op:CmpOp} (h:op≠.In:=by decide) (h2:op≠.NotIn:=by decide):behindInMarks op b=false:=by
 have e1:(op == CmpOp.In)=false:=by cases op <;> first | rfl | exact absurd rfl h
 have e2:(op == CmpOp.NotIn)=false:=by cases op <;> first | rfl | exact absurd rfl h2
 cases b <;> simp [behindInMarks,e1,e2]
theorem QhT {op:CmpOp} {r:R2} (ho:OpR X (compareOp op) r) (ha:PE X a ta) (hb:PE X b tb) (hm:behindInMarks op b=false):PE X (.Compare a [op] [b] pos) (tOp r ta tb):=by
 intro pins s σ H Q I h
 exact wpAny_Compare1 (binT ha hb I h fun v u s2 x y H2 I2 rx ry q=>ho pins s2 σ H2 x y v u Q I2 rx ry q) hm
noncomputable def QkM (t:TE):TT:=fun σ H Q=>t σ H fun x H'=>∃ k,x=.bl k∧Q k H'
theorem QhU {op:CmpOp} {r:R2} (ho:OpR X (compareOp op) r) (ha:PE X a ta) (hb:PE X b tb) (hm:behindInMarks op b=false):PT X (.Compare a [op] [b] pos) (QkM (tOp r ta tb)):=by
 intro pins s σ H Q I h
 refine wpAny_isTrue_Compare1 (thn (ha pins s σ H _ I h) fun v s1 ⟨x,H1,I1,r1,q1⟩=>thn (hb pins s1 σ H1 _ I1 q1) fun u s2 ⟨y,H2,I2,r2,q2⟩ =>
  thn (ho pins s2 σ H2 x y v u _ I2 r1 r2 q2) fun c s3 ⟨z,H3,I3,r3,k,e,q3⟩=>?_) hm
 subst e
 cases r3
 exact wpAny_truthy_bool ⟨H3,I3,q3⟩
theorem Qcl:(sizeLine:Nat)<2 ^ 63:=by rw [sizeLine_eq]; decide
theorem Qeg {x:V} {us:List Value} (r:Vals [x] us):∃ u,us=[u]∧RelV x u:=by
 cases r with
 | cons r1 r2=>cases r2; exact⟨_,rfl,r1⟩
theorem QeZ:CallR X (.type "int") (fun xs H Q=>(∃ i,xs=[.int i]∧Q (.int i) H)∨∃ k,xs=[.bl k]∧Q (.int (if k then 1 else 0)) H):=by
 intro pins s σ H xs us Q I r h
 rcases h with⟨i,rfl,q⟩ | ⟨k,rfl,q⟩
 ·obtain⟨u,rfl,t,rfl⟩:=Qeg r
  exact call_int_int ⟨.int i,H,I,⟨_,rfl⟩,q⟩
 ·obtain⟨u,rfl,r1⟩:=Qeg r
  cases r1
  exact call_int_bool ⟨.int (if k then 1 else 0),H,I.tok _,⟨_,rfl⟩,q⟩
end
end L2
namespace L2
open PySem PySem.Spec PyProof.Rows
structure ObjM (h:Heap) (x dx C:Addr) (mA:Str->Option Value):Prop where
 obj:h.get? x=some (PySem.W.instObj C dx)
 ns:h.Ns1 dx mA
 ne:dx≠x
theorem Qe0 {h:Heap} {dx:Addr} {mA:Str->Option Value} (n:h.Ns1 dx mA):∃ od,h.get? dx=some od∧∀ name,PySem.W.lookIn name od=some (mA name):=by
 obtain⟨o,es,ep,ho,hd,hk,_,hm⟩:=n
 refine⟨o,ho,fun name=>?_⟩
 have e:=hm name
 unfold nsFind findBy at e
 rw [← Array.find?_toList] at e
 unfold PySem.W.lookIn
 rw [hd]
 dsimp only
 split
 ·rename_i y q
  rw [q] at e
  exact congrArg some e
 ·rename_i q
  rw [q] at e
  have a:es.toList.any (·.refKey)=false:=by
   rw [List.any_eq_false]
   intro y hy
   obtain⟨z,t,hkey⟩:=hk y (Array.mem_toList_iff.mp hy)
   simp [DictEntry.refKey,hkey]
  have a':¬ es.toList.any (·.refKey)=true:=by rw [a]; exact Bool.false_ne_true
  rw [if_neg a']
  exact congrArg some e
theorem ObjM.look {h:Heap} {x dx C:Addr} {mA:Str->Option Value} (I:ObjM h x dx C mA):∃ od,PySem.W.InstAt h x (PySem.W.instObj C dx) C (some od)∧∀ name,PySem.W.lookIn name od=some (mA name) :=
 let ⟨od,ho,hl⟩:=Qe0 I.ns
 ⟨od,⟨I.obj,rfl,rfl,ho⟩,hl⟩
section
variable {prog:Program} {w:World} {A:Around} {E:Value->Shared->Prop} {s:Shared} {K:PySem.W.Frag} {x dx C f:Addr} {mA:Str->Option Value} {name:Str} {v:Value}
end
noncomputable def putF (f:Str) (v:V):List (Str×V)->List (Str×V)
 | []=>[(f,v)]
 | (g,x)::r=>if g=f then (g,v)::r else (g,x)::putF f v r
theorem RelO.some_of {v:V} {o:Option Value} (r:RelO (some v) o):∃ u,o=some u∧RelV v u:=by
 cases o with
 | none=>exact(show False from r).elim
 | some u=>exact⟨u,rfl,r⟩
section
variable {P:Program} {w:World} {H H':Hp} {h h':Heap} {a C dx:Addr} {fs fs':List (Str×V)}
theorem QhV (hok:HOk P w H h) (e:H a=some (.ins C dx fs)):∃ mA,ObjM h a dx C mA∧(∀ f,RelO (fs.lookup f) (mA f))∧PySem.Within mA (fs.map (·.1))∧fs.length≤1000∧H dx=some (.own a):=by
 obtain⟨d,z,ne,ob,mA,n,r,q⟩:=(show ObjOk P w H h a (.ins C dx fs) from hok a _ e)
 exact⟨mA,⟨ob,n,ne⟩,r,q,z,d⟩
end
structure Cls (K:PySem.W.Frag) (C:Addr):Prop where
 pg:PySem.W.plainGet K C Str.empty=true
 hd:PySem.W.hasDictIn K C=true
 po:PySem.W.plainOver K C=true
 sa:PySem.W.findIn K (.ref C) "__setattr__" = some (some (.builtin "object.__setattr__"))
theorem Cls.get {K:PySem.W.Frag} {C:Addr} (c:Cls K C) (f:Str):PySem.W.plainGet K C f=true:=c.pg
section
variable {X:Cx} {pins:List (Addr×Obj)} {σ:St} {H:Hp} {s:Shared} {a C dx:Addr} {fs:List (Str×V)} {f:Str} {v:V} {A:Around} {E:Value->Shared->Prop}
theorem Inv.made (I:Inv X pins σ H s):Inv X pins σ (upd (upd H s.heap.objs.size (.own (s.heap.objs.size+1))) (s.heap.objs.size+1) (.ins C s.heap.objs.size []))
  { s with heap:=(s.heap.push PySem.W.emptyDict).push (PySem.W.instObj C s.heap.objs.size) }:=by
 have e1:(s.heap.push PySem.W.emptyDict).get? s.heap.objs.size=some PySem.W.emptyDict:=Heap.get?_push_size s.heap rfl
 have e2:((s.heap.push PySem.W.emptyDict).push (PySem.W.instObj C s.heap.objs.size)).get? (s.heap.objs.size+1)=some (PySem.W.instObj C s.heap.objs.size):=by
  have:=Heap.get?_push_size (s.heap.push PySem.W.emptyDict) (o:=PySem.W.instObj C s.heap.objs.size) rfl
  rwa [Heap.size_push] at this
 have e3:(s.heap.push PySem.W.emptyDict).Ns s.heap.objs.size (fun _=>none):=⟨PySem.W.emptyDict,#[],_,e1,rfl,(fun e he=>absurd he (by simp)),fun _=>rfl⟩
 have I1:=I.laid (a:=s.heap.objs.size) (o:=.own (s.heap.objs.size+1)) (h':=s.heap.push PySem.W.emptyDict) (t':=s.toks) (fun b u q=>Heap.get?_push_of_some _ q) (Nat.le_refl _) ⟨_,e1⟩
 refine I1.laid (a:=s.heap.objs.size+1) (o:=.ins C s.heap.objs.size []) (t':=s.toks) (fun b u q=>Heap.get?_push_of_some _ q) (Nat.le_of_eq (Heap.size_push _ _)) ?_
 have ne:s.heap.objs.size≠s.heap.objs.size+1:=Nat.ne_of_lt (Nat.lt_succ_self _)
 refine⟨by rw [Qw ne,Qt],Nat.zero_le _,ne,e2,fun _=>none,(Heap.Ns1.of_empty e3).at fun o q=>Heap.get?_push_of_some _ q,fun _=>True.intro,fun y hy=>absurd rfl hy⟩
end
section
variable {X:Cx} {o e value:Expr} {f:Str} {pos pos' tpos:Pos} {ta tv:TE}
end
section
variable {X:Cx} {pins:List (Addr×Obj)} {σ:St} {H:Hp} {s:Shared} {A:Around} {E:Value->Shared->Prop} {Q:Value->Shared->Prop} {c:Value} {b:Bool}
inductive TyOf (K:PySem.W.Frag) (H:Hp):V->Value->Prop where
 | non:TyOf K H .non (.type "NoneType")
 | bl (x:Bool):TyOf K H (.bl x) (.type "bool")
 | int (i:Int):TyOf K H (.int i) (.type "int")
 | str (x:Str):TyOf K H (.str x) (.type "str")
 | flt (x:UInt64):TyOf K H (.flt x) (.type "float")
 | lst {a:Addr} {xs:List V} (e:H a=some (.lst xs)):TyOf K H (.ref a) (.type "list")
 | frz {a:Addr} {o:Obj} {xs:List V} (e:H a=some (.frz o (.lst xs))):TyOf K H (.ref a) (.type "list")
 | tup {a:Addr} {xs:List V} (e:H a=some (.tup xs)):TyOf K H (.ref a) (.type "tuple")
 | dK {a:Addr} {kvs:List (Key×V)} (e:H a=some (.dK kvs)):TyOf K H (.ref a) (.type "dict")
 | dT {a:Addr} {kvs:List (List Key×V)} (e:H a=some (.dT kvs)):TyOf K H (.ref a) (.type "dict")
 | ins {a C dx:Addr} {fs:List (Str×V)} (e:H a=some (.ins C dx fs)) (cl:Cls K C) (ha:PySem.W.findIn K (.ref C) "__class__" = some (some (.builtin "object.__class__")))
   (hn:PySem.W.specialIn K (.builtin "object.__class__") "__get__" = some (some (.builtin "getset_descriptor.__get__"))) (htk:PySem.W.takesIn K (.builtin "object.__class__")=some true)
   (hm:PySem.W.mroIn K C (.type "object")=some true):TyOf K H (.ref a) (.ref C)
theorem Z2 {x:V} {u t:Value} (I:Inv X pins σ H s) (rx:RelV x u) (ty:TyOf X.K H x t) (e:PySem.W.kitOne X.K t c=some b) (h:∀ tk,Q (.bool b) { s with toks:=tk }) :
  wpAny (model X.prog X.w) A (call (.builtin "isinstance") [u,c]) Q E s:=by
 cases ty with
 | non=>cases (show u=Value.none from rx); exact PySem.W.kia_one PySem.W.kitx_none I.kIn True.intro e (fun z=>nomatch z) h
 | bl y=>cases (show u=Value.bool y from rx); exact PySem.W.kia_one PySem.W.kitx_bool I.kIn True.intro e (fun z=>nomatch z) h
 | int i=>obtain⟨t,q⟩:=(show ∃ t,u=Value.int i t from rx); cases q; exact PySem.W.kia_one PySem.W.kitx_int I.kIn True.intro e (fun z=>nomatch z) h
 | str y=>obtain⟨t,q⟩:=(show ∃ t,u=Value.str y t from rx); cases q; exact PySem.W.kia_one PySem.W.kitx_str I.kIn True.intro e (fun z=>nomatch z) h
 | flt y=>obtain⟨t,q⟩:=(show ∃ t,u=Value.float y t from rx); cases q; exact PySem.W.kia_one PySem.W.kitx_float I.kIn True.intro e (fun z=>nomatch z) h
 | @lst a xs ea =>
  cases (show u=Value.ref a from rx)
  obtain⟨_,_,n,_,h1⟩:=(show ObjOk X.prog X.w H s.heap a (.lst xs) from I.hok a _ ea)
  exact PySem.W.kia_one PySem.W.kitx_list I.kIn ⟨_,h1,rfl⟩ e (fun z=>nomatch z) h
 | @frz a ob xs ea =>
  cases (show u=Value.ref a from rx)
  obtain⟨_,_,_,n,_,h1⟩:=(show ObjOk X.prog X.w H s.heap a (.frz ob (.lst xs)) from I.hok a _ ea)
  exact PySem.W.kia_one PySem.W.kitx_list I.kIn ⟨_,h1,rfl⟩ e (fun z=>nomatch z) h
 | @tup a xs ea =>
  cases (show u=Value.ref a from rx)
  obtain⟨_,_,_,p⟩:=(show ObjOk X.prog X.w H s.heap a (.tup xs) from I.hok a _ ea)
  obtain⟨o,h1,h2,_⟩:=p
  exact PySem.W.kia_one PySem.W.kitx_tuple I.kIn ⟨o,h1,h2⟩ e (fun z=>nomatch z) h
 | @dK a kvs ea =>
  cases (show u=Value.ref a from rx)
  obtain⟨_,_,vs,_,p⟩:=(show ObjOk X.prog X.w H s.heap a (.dK kvs) from I.hok a _ ea)
  obtain⟨o,es,ep,h1,h2,_⟩:=p
  exact PySem.W.kia_one PySem.W.kitx_dict I.kIn ⟨o,h1,h2.1⟩ e (fun z=>nomatch z) h
 | @dT a kvs ea =>
  cases (show u=Value.ref a from rx)
  obtain⟨_,_,xs,_,o,es,ep,h1,h2,_⟩:=(show ObjOk X.prog X.w H s.heap a (.dT kvs) from I.hok a _ ea)
  exact PySem.W.kia_one PySem.W.kitx_dict I.kIn ⟨o,h1,h2.1⟩ e (fun z=>nomatch z) h
 | @ins a C dx fs ea cl ha hn htk hm =>
  cases (show u=Value.ref a from rx)
  obtain⟨mA,O,_⟩:=QhV I.hok ea
  obtain⟨od,J,_⟩:=O.look
  exact PySem.W.kia_one (PySem.W.kitx_own (cl.get _) cl.hd ha hn htk hm) I.kIn J e (fun z=>nomatch z) h
end
end L2
namespace L2
open PySem PySem.Spec PyProof.Rows
structure Room (k:Nat) (A:Around):Prop where
 hd:A.handled=none
 dp:A.depth+3*k+5<recursionLimit
 un:A.units+16*k+200<cLine
theorem Room.mono {j k:Nat} {A:Around} (r:Room k A) (h:j≤k):Room j A:=⟨r.hd,by have:=r.dp; omega,by have:=r.un; omega⟩
theorem Room.deeper {k:Nat} {A:Around} (r:Room (k+1) A) (env:Env):Room k (A.deeper env) :=
 ⟨r.hd,by have:=r.dp; show A.depth+1+3*k+5<_; omega,by have:=r.un; show A.units+3+16*k+200<_; omega⟩
theorem Room.in1 {k:Nat} {A:Around} (r:Room (k+1) A):Room k A.in1 :=
 ⟨r.hd,by have:=r.dp; show A.depth+3*k+5<_; omega,by have:=r.un; show A.units+1+16*k+200<_; omega⟩
theorem Room.depth {k:Nat} {A:Around} (r:Room k A):A.depth<recursionLimit:=by have:=r.dp; omega
theorem Room.units {k:Nat} {A:Around} (r:Room k A):A.units+64<cLine:=by have:=r.un; omega
noncomputable def tNil:TA:=fun _ H Q=>Q [] H
noncomputable def QkN (ta:TE) (tr:TA):TA:=fun σ H Q=>ta σ H fun x H1=>tr σ H1 fun xs H2=>Q (x::xs) H2
section
variable {X:Cx} {e:Expr} {es:List Expr} {te:TE} {t:TA} {pos:Pos}
theorem Qbi:PA X [] tNil:=fun _ _ _ _ H Q I h=>Calls.spliced_nil ⟨[],H,I,.nil,h⟩
theorem Z3 (ha:PE X e te) (hr:PA X es t) (hs:starEach (e::es) X.env=(false,eval e X.env)::starEach es X.env:=by rfl):PA X (e::es) (QkN te t):=by
 intro pos pins s σ H Q I h
 rw [hs]
 show wpAny _ _ (spliced ((false,eval e X.env)::backTo pos (starEach es X.env))) _ _ s
 refine Calls.spliced_cons (thn (ha pins s σ H _ I h) fun u s1 ⟨x,H1,I1,r1,q1⟩=>?_)
 exact thn (hr pos pins s1 σ H1 _ I1 q1) fun us s2 ⟨xs,H2,I2,r2,q2⟩=>⟨x::xs,H2,I2,.cons r1 r2,q2⟩
noncomputable def tTup (t:TA):TE:=fun σ H Q=>t σ H fun xs H1=>xs.length≤sizeLine∧∀ p,H1 p=none->Q (.ref p) (upd H1 p (.tup xs))
noncomputable def tLst (t:TA):TE:=fun σ H Q=>t σ H fun xs H1=>xs.length≤sizeLine∧∀ p,H1 p=none->Q (.ref p) (upd H1 p (.lst xs))
theorem Qhl {x1} (h:PA X es t):PE X (.Tuple es x1 pos) (tTup t):=by
 intro pins s σ H Q I hq
 refine wpAny_Tuple_spliced (thn (h pos pins s σ H _ I hq) fun us s1 ⟨xs,H1,I1,r,z,q⟩=>⟨by rw [← r.length]; exact z,?_⟩)
 have hf:H1 s1.heap.objs.size=none:=I1.hok.fresh (Nat.le_refl _)
 refine⟨.ref s1.heap.objs.size,upd H1 s1.heap.objs.size (.tup xs),I1.laid (t':=s1.toks) (fun b u e=>Heap.get?_push_of_some _ e) (Nat.le_refl _) ?_,rfl,q _ hf⟩
 exact⟨z,us,r,⟨_,Heap.get?_push_size _ rfl,rfl,_,rfl⟩⟩
theorem Qjq (h:PA X es t):PE X (.List es pos) (tLst t):=by
 intro pins s σ H Q I hq
 refine wpAny_List_spliced (thn (h pos pins s σ H _ I hq) fun us s1 ⟨xs,H1,I1,r,z,q⟩=>⟨by rw [← r.length]; exact z,?_⟩)
 have hf:H1 s1.heap.objs.size=none:=I1.hok.fresh (Nat.le_refl _)
 refine⟨.ref s1.heap.objs.size,upd H1 s1.heap.objs.size (.lst xs),I1.laid (t':=s1.toks) (fun b u e=>Heap.get?_push_of_some _ e) (Nat.le_refl _) ?_,rfl,q _ hf⟩
 exact⟨z,us,0,r,Heap.get?_push_size _ rfl⟩
end
noncomputable abbrev Sp:=List V->Hp->VK->XK->Prop
noncomputable abbrev CXT:=List Env->Hp->Shared->XK->Value->Shared->Prop
structure Env0 (P:Program) (w:World) (K:PySem.W.Frag) (mg:Str->Option Value) (base:Heap) (A:Around) (outer:List Env) (s:Shared) (H:Hp):Prop where
 frames:A.frames=some outer
 mod:Mod K mg base
 bs:∀ b o,base.get? b=some o->s.heap.get? b=some o∧H b=none
 bsz:base.objs.size≤s.heap.objs.size
 funs:s.heap.FunFrames base outer
 frf:∀ b∈frs outer,H b=none
 hok:HOk P w H s.heap
 bare:AllBare s.gens
noncomputable def CE (outer:List Env) (P:Program) (w:World) (H:Hp) (s:Shared) (Q:VK) (u:Value) (s':Shared):Prop :=
 ∃ v H',s'.os=s.os∧AllBare s'.gens∧Un (frs outer) [] H H' s.heap s'.heap∧HOk P w H' s'.heap∧RelV v u∧Q v H'
noncomputable def CR (CX:CXT) (outer:List Env) (P:Program) (w:World) (H:Hp) (s:Shared) (Q:VK) (E:XK) (r:Result) (s':Shared):Prop :=
 match r with
 | .ok (.ret u)=>CE outer P w H s Q u s'
 | .ok _=>False
 | .error e=>CX outer H s E e s'
structure FnOk (P:Program) (w:World) (K:PySem.W.Frag) (mg:Str->Option Value) (base:Heap) (CX:CXT) (k:Nat) (f:Addr) (fd:FuncData) (ps:List Str) (sp:Sp):Prop where
 len:∀ vs H Q E,sp vs H Q E->vs.length=ps.length
 run:∀(A:Around) (outer:List Env) (s:Shared) (H:Hp) (args:Args) (us:List Value) (vs:List V) (Q:VK) (E:XK),Room k A->Env0 P w K mg base A outer s H->BindsTo s fd args (ps.zip us)->Vals vs us->sp vs H Q E ->
  codeAny (model P w) A (.call (.ref f) args) (CR CX outer P w H s Q E) s
theorem FnOk.mono {P:Program} {w:World} {K:PySem.W.Frag} {mg:Str->Option Value} {base:Heap} {CX:CXT} {j k:Nat} {f:Addr} {fd:FuncData} {ps:List Str} {sp:Sp} (F:FnOk P w K mg base CX j f fd ps sp) (h:j≤k) :
  FnOk P w K mg base CX k f fd ps sp:=⟨F.len,fun A outer s H args us vs Q E hr=>F.run A outer s H args us vs Q E (hr.mono h)⟩
theorem FnOk.imp {P:Program} {w:World} {K:PySem.W.Frag} {mg:Str->Option Value} {base:Heap} {CX:CXT} {k:Nat} {f:Addr} {fd:FuncData} {ps:List Str} {sp sp':Sp} (F:FnOk P w K mg base CX k f fd ps sp)
  (h:∀ vs H Q E,sp' vs H Q E->sp vs H Q E):FnOk P w K mg base CX k f fd ps sp' :=
 ⟨fun vs H Q E q=>F.len vs H Q E (h _ _ _ _ q),fun A outer s H args us vs Q E hr he hb hv hs=>F.run A outer s H args us vs Q E hr he hb hv (h _ _ _ _ hs)⟩
theorem Env0.in1 {P:Program} {w:World} {K:PySem.W.Frag} {mg:Str->Option Value} {base:Heap} {A:Around} {outer:List Env} {s:Shared} {H:Hp} (e:Env0 P w K mg base A outer s H) :
  Env0 P w K mg base A.in1 outer s H:=⟨e.frames,e.mod,e.bs,e.bsz,e.funs,e.frf,e.hok,e.bare⟩
section
variable {X:Cx} {pins:List (Addr×Obj)} {σ:St} {H:Hp} {s s':Shared}
theorem Inv.env0 (I:Inv X pins σ H s):Env0 X.prog X.w X.K X.mg X.base X.A X.stack s H :=
 ⟨I.ok.frames,I.ok.mod,I.bs,Nat.le_trans I.ok.bsz I.sz,I.stack,I.stkFree,I.hok,I.bare⟩
theorem Inv.after {Q:VK} {u:Value} (I:Inv X pins σ H s) (h:CE X.stack X.prog X.w H s Q u s'):EP X pins σ Q u s':=by
 obtain⟨v,H',os,bare,un,hok,r,q⟩:=h
 obtain⟨hh,g,d,t,os'⟩:=s'
 obtain rfl:os'=s.os:=os
 exact⟨v,H',I.call (h':=hh) (g':=g) (d':=d) (t':=t) (ch:=[]) un hok bare (fun b z=>absurd z (by simp)),r,q⟩
end
noncomputable def Binds (K:PySem.W.Frag) (fd:FuncData) (ps:List Str) (ds:List Value):Prop :=
 ∀(s:Shared) (us:List Value),K.In s.heap->(us++ds).length=ps.length->BindsTo s fd ⟨us,[]⟩ (ps.zip (us++ds))
theorem Binds.all {K:PySem.W.Frag} {fd:FuncData} {ps:List Str} (h:∀ us:List Value,us.length=ps.length->bindArgs fd ⟨us,[]⟩=pure (ps.zip us)):Binds K fd ps []:=fun s us _ hl=>by
 rw [List.append_nil] at hl ⊢
 exact .of_eq (h us hl)
section
variable {X:Cx} {CX:CXT} {k:Nat} {f C:Addr} {fd:FuncData} {ps:List Str} {sp:Sp} {dvs:List V} {ds:List Value} {E:XK} {x m:Str} {p pos apos:Pos} {e o:Expr} {es:List Expr} {ta:TE} {t:TA}
end
section
variable {X:Cx} {CX:CXT} {k:Nat} {f C:Addr} {fd:FuncData} {ps ks:List Str} {sp:Sp} {E:XK} {x m:Str} {p pos apos kpos:Pos} {e o:Expr} {es:List Expr} {kws:List Keyword} {te ta:TE} {t tk:TA} {nm:Option Str}
variable {g:List Value->List Value->List Value} {gV:List V->List V->List V}
end
structure FnScope (N P:List Str) (sc:Scope):Prop where
 kind:sc.kind=.function
 co:sc.isCoroutine=false
 gen:sc.isGenerator=false
 nd:N.Nodup
 pre:N.take P.length=P
 par:∀ x∈P,sc.names.lookup x=some .local∨sc.names.lookup x=some .cell
 nofree:∀ y∈sc.names,y.2≠.free
theorem Qcm {kindOf:Str->Option NameKind} {x:Str}:∀ {binds:List (Str×Value)} {m:Str->Option Value},(∀ v,(x,v)∉binds)->bindL kindOf binds m x=m x
 | [],_,_=>rfl
 | (n,v)::r,m,h=>by
  unfold bindL
  rw [Qcm fun w hw=>h w (List.mem_cons_of_mem _ hw)]
  split
  ·have:x≠n:=by rintro rfl; exact h v List.mem_cons_self
   simp [this]
  ·rfl
theorem Qcn {kindOf:Str->Option NameKind} {x:Str}:∀ {binds:List (Str×Value)} {m:Str->Option Value},(∀ v,(x,v)∉binds)->bindC kindOf binds m x=m x
 | [],_,_=>rfl
 | (n,v)::r,m,h=>by
  unfold bindC
  rw [Qcn fun w hw=>h w (List.mem_cons_of_mem _ hw)]
  split
  ·rfl
  ·have:x≠n:=by rintro rfl; exact h v List.mem_cons_self
   simp [this]
theorem Qco {kindOf:Str->Option NameKind} {x:Str} {v:Value}:∀ {P:List Str} {vs:List Value} {i:Nat} {m:Str->Option Value},P.Nodup->P[i]?=some x->vs[i]?=some v->kindOf x=some .local ->
  bindL kindOf (P.zip vs) m x=some v
 | [],_,_,_,_,h,_,_=>by simp at h
 | _::_,[],_,_,_,_,h,_=>by simp at h
 | p::P,w::vs,0,m,nd,h1,h2,hk=>by
  simp at h1 h2; subst h1; subst h2
  show bindL kindOf ((p,w)::P.zip vs) m p=_
  unfold bindL
  rw [Qcm fun v hv=>(List.nodup_cons.mp nd).1 (List.of_mem_zip hv).1,if_pos hk]
  simp
 | p::P,w::vs,i+1,m,nd,h1,h2,hk=>by
  show bindL kindOf ((p,w)::P.zip vs) m x=_
  unfold bindL
  exact Qco (i:=i) (List.nodup_cons.mp nd).2 (by simpa using h1) (by simpa using h2) hk
theorem Qcp {kindOf:Str->Option NameKind} {x:Str} {v:Value}:∀ {P:List Str} {vs:List Value} {i:Nat} {m:Str->Option Value},P.Nodup->P[i]?=some x->vs[i]?=some v->kindOf x≠some .local ->
  bindC kindOf (P.zip vs) m x=some v
 | [],_,_,_,_,h,_,_=>by simp at h
 | _::_,[],_,_,_,_,h,_=>by simp at h
 | p::P,w::vs,0,m,nd,h1,h2,hk=>by
  simp at h1 h2; subst h1; subst h2
  show bindC kindOf ((p,w)::P.zip vs) m p=_
  unfold bindC
  rw [Qcn fun v hv=>(List.nodup_cons.mp nd).1 (List.of_mem_zip hv).1,if_neg hk]
  simp
 | p::P,w::vs,i+1,m,nd,h1,h2,hk=>by
  show bindC kindOf ((p,w)::P.zip vs) m x=_
  unfold bindC
  exact Qcp (i:=i) (List.nodup_cons.mp nd).2 (by simpa using h1) (by simpa using h2) hk
noncomputable def start (N:List Str) (vs:List V):St:=vs.map some++List.replicate (N.length - vs.length) none
noncomputable def cxOf (CX:CXT) (P:Program) (w:World) (K:PySem.W.Frag) (mg:Str->Option Value) (base:Heap) (N:List Str) (qual:Str) (scope:Scope) (f:Addr) (cd:Value) (A:Around) (outer:List Env) (s:Shared) (H:Hp) (E:XK):Cx where
 prog:=P
 w:=w
 K:=K
 mg:=mg
 base:=base
 A:=A.deeper (envOfC qual scope s.heap.objs.size f cd)
 N:=N
 s₀:=s
 H₀:=H
 env:=envOfC qual scope s.heap.objs.size f cd
 outer:=outer
 stack:=envOfC qual scope s.heap.objs.size f cd::outer
 ex:=[]
 calm:=true
 fn:=fun _=>true
 pn:=[]
 xe:=fun e s'=>wpAny (model P w) (A.deeper (envOfC qual scope s.heap.objs.size f cd)) (leaving (envOfC qual scope s.heap.objs.size f cd) e) (fun _ s''=>CX outer H s E e s'') (fun e' s''=>CX outer H s E e' s'') s'
theorem QdA {sc:Scope} {n:Nat} {x:Str} (h:sc.names.lookup x=some .cell):∃ c,(cellsFrom n sc.names []).lookup x=some c:=by
 have q:=PySem.W.cellsFrom_some sc.names n [] (.inl h)
 exact Option.isSome_iff_exists.mp q
theorem Qe1 {CX:CXT} {P:Program} {w:World} {K:PySem.W.Frag} {mg:Str->Option Value} {base:Heap} {N ps:List Str} {qual:Str} {scope:Scope} {f:Addr} {cd:Value} {A:Around} {outer:List Env} {s s1:Shared} {H:Hp} {E:XK} {us:List Value} {vs:List V}
  (S:FnScope N ps scope) (hd:A.handled=none) (e0:Env0 P w K mg base A outer s H) (hl:vs.length=ps.length) (r:Vals vs us)
  (x:InCallC s s.heap.objs.size (bindL (envOfC qual scope s.heap.objs.size f cd).kindOf (ps.zip us) fun _=>none) (cellsFrom (s.heap.objs.size+1) scope.names []) (bindC (envOfC qual scope s.heap.objs.size f cd).kindOf (ps.zip us) fun _=>none) s1) :
  Inv (cxOf CX P w K mg base N qual scope f cd A outer s H E) [] (start N vs) H s1:=by
 have hpl:ps.length≤N.length:=by have:=congrArg List.length S.pre; rw [List.length_take] at this; omega
 obtain⟨h1,tk,rfl,hk⟩:=x.done
 have noA:∀ b:Addr,b∉(cxOf CX P w K mg base N qual scope f cd A outer s H E).ex:=fun b z=>absurd (show b∈([]:List Addr) from z) (by simp)
 refine⟨⟨e0.mod,S.kind,rfl,rfl,Nat.le_refl _,fun y z c h1 h2=>?_,fun y hy=>?_,fun y c _ h=>?_,fun _=>hd,Around.frames_deeper e0.frames,.inr ⟨rfl,rfl⟩,fun b z=>absurd z (noA b),e0.bs,e0.bsz,fun b _ _=>noA b,fun b z=>absurd z (noA b),e0.funs,e0.frf⟩,
  rfl,e0.bare,Un.kept hk,⟨_,x.toInCall.ns,fun i y v h1 h2 h3=>?_⟩,fun y c h=>⟨_,x.cell y c h⟩,e0.hok.fresh (Nat.le_refl _),fun y c h=>?_,fun p hp=>absurd (show p∈([]:List (Addr×Obj)) from hp) (by simp),e0.hok.kept hk,?_⟩
 ·exact name_of_addr x.apart (PySem.mem_of_lookup h1) (PySem.mem_of_lookup h2)
 ·have hy:scope.names.lookup y=some .cell∨scope.names.lookup y=some .free:=hy
  rcases hy with hy | hy
  ·exact QdA hy
  ·exact absurd rfl (S.nofree _ (PySem.mem_of_lookup hy))
 ·exact Nat.le_of_lt (x.above y c (PySem.mem_of_lookup h))
 ·have hi:i<vs.length:=by
   unfold start at h2
   by_cases hi:i<vs.length
   ·exact hi
   ·rw [List.getElem?_append_right (by simpa using hi)] at h2
    rw [List.getElem?_replicate] at h2
    split at h2 <;> cases h2
  have ha:vs[i]?=some v:=by
   unfold start at h2
   rw [List.getElem?_append_left (by simpa using hi),List.getElem?_map] at h2
   cases e:vs[i]? with
   | none=>rw [e] at h2; cases h2
   | some a=>rw [e] at h2; cases h2; rfl
  obtain⟨u,hu,rv⟩:=r.get ha
  have hp:ps[i]?=some y:=by
   rw [← S.pre,List.getElem?_take_of_lt (by omega)]; exact h1
  have ndP:ps.Nodup:=by rw [← S.pre]; exact S.nd.sublist (List.take_sublist _ _)
  refine⟨u,rv,?_⟩
  rcases S.par y (List.mem_of_getElem? hp) with k | k
  ·exact .inl ⟨k,Qco ndP hp hu k⟩
  ·obtain⟨c,e⟩:=QdA (n:=s.heap.objs.size+1) k
   refine .inr ⟨.inl k,c,e,?_⟩
   have q:=x.cell y c e
   rw [Qcp ndP hp hu (by show scope.names.lookup y≠_; rw [k]; decide)] at q
   exact q
 ·exact e0.hok.fresh (Nat.le_of_lt (x.above y c (PySem.mem_of_lookup h)))
 ·unfold start
  show _=N.length
  rw [List.length_append,List.length_map,List.length_replicate]
  omega
theorem Qjr {CX:CXT} {P:Program} {w:World} {K:PySem.W.Frag} {mg:Str->Option Value} {base:Heap} {k:Nat} {f:Addr} {name qual:Str} {params:Arguments} {body:List Stmt} {scope:Scope} {dV kV doc pm cdv ct oc:Value} {an od:Option Addr}
  {osl:Array (Option Value)} {N ps:List Str} {sp:Sp} (lk:K.lookup f=some ⟨oc,od,.func (PySem.W.fnOf name qual params body scope dV kV doc pm an cdv ct),osl⟩) (hcd:PySem.W.codeIn K cdv qual=true) (S:FnScope N ps scope)
  (len:∀ vs H Q E,sp vs H Q E->vs.length=ps.length)
  (hbody:∀(A:Around) (outer:List Env) (s:Shared) (H:Hp) (vs:List V) (Q:VK) (E:XK),Room k (A.deeper (envOfC qual scope s.heap.objs.size f cdv))->sp vs H Q E ->
   ∃ t,PSs (cxOf CX P w K mg base N qual scope f cdv A outer s H E) body t∧t { nx:=fun _ H'=>Q .non H',rt:=Q } (start N vs) H) :
  FnOk P w K mg base CX (k+1) f (PySem.W.fnOf name qual params body scope dV kV doc pm an cdv ct) ps sp:=by
 refine⟨len,fun A outer s H args us vs Q E hr e0 hb r hsp=>?_⟩
 have hl:=len _ _ _ _ hsp
 have KX:K.In s.heap:=e0.mod.kin.keeps fun b o e=>(e0.bs b o e).1
 have lim:s.heap.NoLimit:=e0.mod.nolimit.keeps fun b o e=>(e0.bs b o e).1
 have hkind:∀ y∈ps.zip us,scope.names.lookup y.1=some .local∨(scope.names.lookup y.1=some .cell∧((cellsFrom (s.heap.objs.size+1) scope.names []).lookup y.1).isSome=true):=fun⟨n,v⟩ hy=>by
  rcases S.par n (List.of_mem_zip hy).1 with q | q
  ·exact .inl q
  ·exact .inr ⟨q,PySem.W.cellsFrom_some _ _ _ (.inl q)⟩
 refine codeAny_call_function hr.depth (KX _ _ lk) rfl S.co S.gen rfl (PySem.W.codeRec_of KX hcd) (hb _ _ _ _ ?_)
 refine wpAny_newFunctionEnv_cells S.kind hkind fun env he s1 x=>?_
 subst he
 refine⟨lim.keeps x.toInCall.keep,codeAny_func ?_⟩
 obtain⟨t,ht,hq⟩:=hbody A outer s H vs Q E (hr.deeper _) hsp
 have I:Inv (cxOf CX P w K mg base N qual scope f cdv A outer s H E) [] (start N vs) H s1:=Qe1 S hr.hd e0 hl r x
 refine wpAny_mono (ht [] s1 (start N vs) H _ I hq) (fun fl s' hs=>?_) fun e s' hs=>hs
 have fin:∀ {σ':St} {H':Hp} {v:V} {u:Value},Inv (cxOf CX P w K mg base N qual scope f cdv A outer s H E) [] σ' H' s'->RelV v u->Q v H'->CE outer P w H s Q u s' :=
  fun {σ' H' v u} J rv q=>⟨v,H',J.os,J.bare,J.base,J.hok,rv,q⟩
 cases fl with
 | ret u =>
  obtain⟨v,σ',H',J,rv,q⟩:=hs
  exact fin J rv q
 | next =>
  obtain⟨σ',H',J,q⟩:=hs
  exact fin (v:=V.non) (u:=Value.none) J rfl q
 | brk =>
  obtain⟨_,_,_,q⟩:=hs
  exact False.elim q
 | cont =>
  obtain⟨_,_,_,q⟩:=hs
  exact False.elim q
end L2
namespace L2
open PySem PySem.Spec PyProof.Rows
section
variable {X:Cx} {x:Str} {p pos:Pos} {e:Expr} {es:List Expr} {t:TA} {id T:String} {r:List V->Hp->VK->Prop}
noncomputable def tCB (r:List V->Hp->VK->Prop) (t:TA):TE:=fun σ H Q=>t σ H fun vs H1=>r vs H1 Q
theorem Ju (hc:CallR X (.builtin id) r) (hg:Gl X x) (hm:X.mg x=none) (hv:bootBuiltins x=some (.builtin id)) (ha:PA X (e::es) t) (hn:x ≠ "__name__":=by decide) (hdb:(x == ("__debug__" : Str))=false:=by decide)
  (he:starEach (e::es) X.env=(false,eval e X.env)::starEach es X.env:=by rfl) (hpl:(backTo pos (starEach es X.env)).any (·.1)=false:=by rfl):PE X (.Call (.Name x p) (e::es) [] pos) (tCB r t):=by
 intro pins s σ H Q I h
 refine wpAny_Call_Name_kw (Qbh I hg hm hv ?_ hn hdb)
 exact PyProof.Rows.callWith_builtin1 (thn (ha pos pins s σ H _ I h) fun us s1 ⟨vs,H1,I1,r1,q1⟩=>hc pins s1 σ H1 vs us Q I1 r1 q1) he hpl
theorem Qe2 (hc:CallR X (.type T) r) (hg:Gl X x) (hm:X.mg x=none) (hv:bootBuiltins x=some (.type T)) (ha:PA X (e::es) t) (hn:x ≠ "__name__":=by decide) (hdb:(x == ("__debug__" : Str))=false:=by decide)
  (he:starEach (e::es) X.env=(false,eval e X.env)::starEach es X.env:=by rfl) (hpl:(backTo pos (starEach es X.env)).any (·.1)=false:=by rfl):PE X (.Call (.Name x p) (e::es) [] pos) (tCB r t):=by
 intro pins s σ H Q I h
 refine wpAny_Call_Name_kw (Qbh I hg hm hv ?_ hn hdb)
 exact PyProof.Rows.callWith_type1 (thn (ha pos pins s σ H _ I h) fun us s1 ⟨vs,H1,I1,r1,q1⟩=>hc pins s1 σ H1 vs us Q I1 r1 q1) he hpl
end
end L2
namespace HT
open PySem PyProof.Rows
section
open PySem.SeqAt
open PySem.AutoSeq1 (wpAny_loadPart')
open PySem.MeetsSeq PySem.MeetsSeq2 PySem.MeetsSeq3
end
section
variable {prog:Program} {w:World} {A:Around} {E:Value->Shared->Prop} {s:Shared}
theorem cat_tup {t b:Addr} {vs ws:List Value} {Q:Value->Shared->Prop} (ht:IsTup s.heap t vs.toArray) (hb:IsTup s.heap b ws.toArray) (hv:vs≠[])
  (h1:ws=[]->Q (.ref t) s) (h2:ws≠[]->Q (.ref s.heap.objs.size) { s with heap:=s.heap.push { cls:=.type "tuple",data:=.seq (vs++ws).toArray } })
  (hsz:vs.length+ws.length≤sizeLine):wpAny (model prog w) A (binaryOp .Add (.ref t) (.ref b)) Q E s:=by
 obtain⟨⟨cls,dd,data,sl⟩,ho,hc,n,hd⟩:=id ht
 obtain⟨⟨cls2,dd2,data2,sl2⟩,ho2,hc2,n2,hd2⟩:=id hb
 simp only at hc hd hc2 hd2
 subst hc hd hc2 hd2
 have e:vs.toArray++ws.toArray=(vs++ws).toArray:=by simp
 by_cases hw:ws=[]
 ·exact concat_meets ⟨_,ho,rfl⟩ ⟨_,ho2,rfl⟩ noFill_tuple_add seq_tuple_add PySem.F.slot_tuple_add PySem.F.entry_tuple_add (PySem.F.args_tuple_add_2 _ _)
   (tuple_addW1 t b vs.toArray ws.toArray n n2 dd dd2 sl sl2 (by simpa using hv) (by simp [hw])) ⟨ho,ho2,h1 hw⟩
 ·refine concat_meets ⟨_,ho,rfl⟩ ⟨_,ho2,rfl⟩ noFill_tuple_add seq_tuple_add PySem.F.slot_tuple_add PySem.F.entry_tuple_add (PySem.F.args_tuple_add_2 _ _)
   (tuple_addW2 t b vs.toArray ws.toArray n n2 dd dd2 sl sl2 (by simpa using hv) (by simpa using hw) (by rw [List.size_toArray,List.size_toArray]; exact hsz)) ⟨ho,ho2,?_⟩
  rw [e]
  exact h2 hw
noncomputable def sIx (n d:Nat):Option Int->Nat
 | none=>d
 | some v=>if v<0 then (v+(n:Int)).toNat else min v.toNat n
theorem Qjs (n d:Nat) (hd:d≤n) (o:Option Int):sIx n d o≤n:=by
 cases o with
 | none=>exact hd
 | some v =>
  show(if v<0 then (v+(n:Int)).toNat else min v.toNat n)≤n
  by_cases hv:v<0
  ·rw [if_pos hv]; omega
  ·rw [if_neg hv]; exact Nat.min_le_right _ _
theorem Qe3 (v:Int) (n d:Nat):(if v<0 then max (v+(n:Int)) 0 else min v (n:Int))=((sIx n d (some v):Nat):Int):=by
 show(if v<0 then max (v+(n:Int)) 0 else min v (n:Int))=(((if v<0 then (v+(n:Int)).toNat else min v.toNat n):Nat):Int)
 by_cases hv:v<0
 ·simp only [if_pos hv]; omega
 ·simp only [if_neg hv]; omega
theorem Qeh (lo hi:Option Int) (n:Nat):Builtin.Slice.sliceAdjust lo hi 1 (n:Int)=(((sIx n 0 lo:Nat):Int),((sIx n n hi:Nat):Int)):=by
 have h1:¬ ((1:Int)<0):=by omega
 unfold Builtin.Slice.sliceAdjust
 simp only [h1,if_false]
 refine Prod.ext ?_ ?_
 ·cases lo with
  | none=>rfl
  | some v=>exact Qe3 v n 0
 ·cases hi with
  | none=>rfl
  | some v=>exact Qe3 v n n
theorem Qei (i j:Nat):Builtin.Slice.slicePlaces (i:Int) (j:Int) 1=j - i:=by
 unfold Builtin.Slice.slicePlaces
 have h1:(1:Int) > 0:=by omega
 simp only [h1,if_true,Int.ediv_one]
 split <;> omega
theorem Qbj {v:Value} {o:Option Int} {Q:Option Int->Shared->Prop} (p:IsPart v o) (h:Q o s):wpAny (model prog w) A (Builtin.Slice.slicePartIndex v) Q E s:=by
 cases p with
 | none=>exact slicePart_none h
 | int i t=>exact slicePart_int h
theorem sliceApplied_gen {sl:Addr} {vl vu:Value} {lo hi:Option Int} {n:Nat} {Q:Int×Int×Nat->Shared->Prop} (hs:s.heap.IsSliceOf sl vl vu .none) (pl:IsPart vl lo) (pu:IsPart vu hi)
  (h:Q (((sIx n 0 lo:Nat):Int),1,sIx n n hi - sIx n 0 lo) s):wpAny (model prog w) A (Builtin.Slice.sliceApplied (.ref sl) (pure (n:Int))) Q E s:=by
 obtain⟨os,hos,hcs,hds⟩:=id hs
 unfold Builtin.Slice.sliceApplied Builtin.Slice.sliceFields
 refine wpAny_bind (wpAny_bind (wpAny_field hos hds (x:=vl) rfl (wpAny_bind (wpAny_field hos hds (x:=vu) rfl (wpAny_bind (wpAny_field hos hds (x:=.none) rfl (wpAny_pure ?_)))))))
 refine wpAny_bind (slicePart_none ?_)
 show wpAny _ _ (if ((1:Int) == 0)=true then _ else _) _ _ s
 rw [if_neg (by decide)]
 refine wpAny_bind (Qbj pl (wpAny_bind (Qbj pu (wpAny_bind (wpAny_pure ?_)))))
 show wpAny _ _ (match Builtin.Slice.sliceAdjust lo hi 1 (n:Int) with | (lo,hi)=>pure (lo,(1:Int),Builtin.Slice.slicePlaces lo hi 1)) _ _ s
 rw [Qeh lo hi n]
 show wpAny _ _ (pure (((sIx n 0 lo:Nat):Int),(1:Int),Builtin.Slice.slicePlaces ((sIx n 0 lo:Nat):Int) ((sIx n n hi:Nat):Int) 1)) _ _ s
 rw [Qei]
 exact wpAny_pure h
theorem Qgs (xs:Array Value) (i k:Nat):((List.range k).filterMap fun(m:Nat)=>xs[((i:Int)+(m:Int)*1).toNat]?).toArray=((xs.toList.drop i).take k).toArray:=by
 have e:(fun(m:Nat)=>xs[((i:Int)+(m:Int)*1).toNat]?)=fun m=>xs[i+m]?:=by
  funext m
  have:((i:Int)+(m:Int)*1).toNat=i+m:=by omega
  rw [this]
 rw [e]
 have:=pick_run xs i k
 rw [List.filterMap_map] at this
 have e2:((fun x=>xs[x]?) ∘ fun x=>i+x)=fun m=>xs[i+m]?:=rfl
 rw [e2] at this
 rw [this]
theorem getItem_tuple_cut {t sl:Addr} {items:Array Value} {vl vu:Value} {lo hi:Option Int} {Q:Value->Shared->Prop} (ht:IsTup s.heap t items) (hs:s.heap.IsSliceOf sl vl vu .none) (pl:IsPart vl lo) (pu:IsPart vu hi)
  (hw:¬ (sIx items.size 0 lo=0∧sIx items.size items.size hi=items.size))
  (h:Q (.ref s.heap.objs.size) { s with heap:=s.heap.push { cls:=.type "tuple",data:=.seq ((items.toList.drop (sIx items.size 0 lo)).take (sIx items.size items.size hi - sIx items.size 0 lo)).toArray } })
  (hsz:items.size≤sizeLine):wpAny (model prog w) A (getItem (.ref t) (.ref sl)) Q E s:=by
 have htake:sizeOk (.seq ((items.toList.drop (sIx items.size 0 lo)).take (sIx items.size items.size hi - sIx items.size 0 lo)).toArray):=by
  show((items.toList.drop (sIx items.size 0 lo)).take (sIx items.size items.size hi - sIx items.size 0 lo)).toArray.size≤sizeLine
  rw [List.size_toArray,List.length_take,List.length_drop,Array.length_toList]
  omega
 have hj:sIx items.size items.size hi≤items.size:=Qjs _ _ (Nat.le_refl _) hi
 obtain⟨os,hos,hcs,hds⟩:=id hs
 have hTs:s.TypeIs (.ref sl) "slice":=⟨os,hos,hcs⟩
 unfold getItem
 try with_reducible refine wpAny_holding ?_
 first | refine wpAny_bind (wpAny_pure ?_) | skip
 refine wpAny_bind (wpAny_sequenceKey ht.typeIs (by decide) ?_)
 refine wpAny_bind (wpAny_callSpecial?_slot (name:=Str.ofString "__getitem__") ht.typeIs PyProof.Rows.slot_tuple_getitem
  (wpAny_call_entry PyProof.Rows.slot_tuple_getitem ht.typeIs entry_tuple_getitem ?_ (args_tuple_getitem _ _)))
 show wpAny _ _ (Builtin.Tuple.tupleItemsOf (.ref t) >>= _) _ _ s
 refine wpAny_bind (tupleItemsOf_ ht ?_)
 refine wpAny_bind (wpAny_typeOf hTs ?_)
 rw [if_pos (by decide)]
 refine wpAny_bind (sliceApplied_gen hs pl pu ?_)
 have hno:¬ ((((sIx items.size 0 lo:Nat):Int) == 0 && (1:Int) == 1 && (sIx items.size items.size hi - sIx items.size 0 lo) == items.size)=true):=by
  intro q
  rw [Bool.and_eq_true,Bool.and_eq_true] at q
  have q1:((sIx items.size 0 lo:Nat):Int)=0:=eq_of_beq q.1.1
  have q2:sIx items.size items.size hi - sIx items.size 0 lo=items.size:=eq_of_beq q.2
  exact hw ⟨by omega,by omega⟩
 show wpAny _ _ (if (((sIx items.size 0 lo:Nat):Int) == 0 && (1:Int) == 1 && (sIx items.size items.size hi - sIx items.size 0 lo) == items.size)=true then _ else _) _ _ s
 rw [if_neg hno,Qgs]
 first
  | exact wpAny_bind (m:=Builtin.Tuple.tupleExact _) (wpAny_newObj_type (wpAny_pure ⟨_,rfl,wpAny_pure h⟩) htake)
  | exact wpAny_bind (m:=Builtin.Tuple.tupleExact _) (wpAny_newObj_type (wpAny_bind (wpAny_pure (wpAny_pure ⟨_,rfl,wpAny_pure h⟩))) htake)
  | exact wpAny_bind (wpAny_bind (m:=Builtin.Tuple.tupleExact _) (wpAny_newObj_type (wpAny_pure (wpAny_pure ⟨_,rfl,wpAny_pure h⟩)) htake))
  | exact wpAny_bind (wpAny_bind (m:=Builtin.Tuple.tupleExact _) (wpAny_newObj_type (wpAny_pure ⟨_,rfl,wpAny_pure h⟩) htake))
end
end HT
namespace L2
open PySem PySem.Spec PyProof.Rows
noncomputable abbrev TO:=St->Hp->(Option Int->Hp->Prop)->Prop
noncomputable def PO (X:Cx) (e:Option Expr) (t:TO):Prop :=
 ∀(pins:List (Addr×Obj)) (s:Shared) (σ:St) (H:Hp) (Q:Option Int->Hp->Prop),Inv X pins σ H s->t σ H Q ->
  wpAny (model X.prog X.w) X.A (evalPart e X.env) (fun u s'=>∃ o H',Inv X pins σ H' s'∧IsPart u o∧Q o H') X.xe s
noncomputable def QhW:TO:=fun _ H Q=>Q none H
noncomputable def QkO (t:TE):TO:=fun σ H Q=>t σ H fun x H1=>∃ i,x=.int i∧Q (some i) H1
theorem intsAre_of {ns:List Int}:∀ {us:List Value},Vals (ns.map V.int) us->IntsAre us ns:=by
 induction ns with
 | nil=>intro us r; rw [List.map_nil] at r; cases r; exact .nil
 | cons n ns ih =>
  intro us r
  rw [List.map_cons] at r
  cases r with
  | cons r1 r2 =>
   obtain⟨t,e⟩:=r1
   subst e
   exact .cons n t (ih r2)
section
variable {X:Cx} {e:Expr} {te:TE} {lo hi:Option Expr} {tl th:TO} {pos p2:Pos}
theorem QhX:PO X none QhW:=by
 intro pins s σ H Q I h
 rw [evalPart_none]
 exact wpAny_pure ⟨none,H,I,.none,h⟩
theorem QhY (h:PE X e te):PO X (some e) (QkO te):=by
 intro pins s σ H Q I hw
 rw [evalPart_some]
 refine thn (h pins s σ H _ I hw) fun u s1 ⟨x,H1,I1,r1,q1⟩=>?_
 obtain⟨i,rfl,q⟩:=q1
 obtain⟨t,rfl⟩:=r1
 exact⟨some i,H1,I1,.int i t,q⟩
noncomputable def SlR (X:Cx) (r:V->Option Int->Option Int->Hp->VK->Prop):Prop :=
 ∀(pins:List (Addr×Obj)) (s:Shared) (σ:St) (H:Hp) (x:V) (v vl vu:Value) (lo hi:Option Int) (sl:Addr) (Q:VK),Inv X pins σ H s->RelV x v->s.heap.IsSliceOf sl vl vu .none->IsPart vl lo->IsPart vu hi->r x lo hi H Q ->
  ∃ T id,typeLookup (.type T) "__getitem__" = pure (some (.builtin id))∧s.TypeIs v T∧wpAny (model X.prog X.w) X.A (getItem v (.ref sl)) (EP X pins σ Q) X.xe s
theorem SlR.or {r r':V->Option Int->Option Int->Hp->VK->Prop} (h:SlR X r) (h':SlR X r'):SlR X (fun x lo hi H Q=>r x lo hi H Q∨r' x lo hi H Q):=by
 intro pins s σ H x v vl vu lo hi sl Q I rx hs pl pu q
 rcases q with q | q
 ·exact h pins s σ H x v vl vu lo hi sl Q I rx hs pl pu q
 ·exact h' pins s σ H x v vl vu lo hi sl Q I rx hs pl pu q
noncomputable def tSl (r:V->Option Int->Option Int->Hp->VK->Prop) (te:TE) (tl th:TO):TE:=fun σ H Q=>te σ H fun x H1=>tl σ H1 fun l H2=>th σ H2 fun u H3=>r x l u H3 Q
theorem Qgt {r:V->Option Int->Option Int->Hp->VK->Prop} (hr:SlR X r) (he:PE X e te) (hl:PO X lo tl) (hu:PO X hi th):PE X (.Subscript e (.Slice lo hi none p2) pos) (tSl r te tl th):=by
 intro pins s σ H Q I h
 refine Subscript_ (thn (he pins s σ H _ I h) fun v s1 ⟨x,H1,I1,r1,q1⟩=>?_)
 refine wpAny_Slice (thn (hl pins s1 σ H1 _ I1 q1) fun vl s2 ⟨l,H2,I2,pl,q2⟩=>thn (hu pins s2 σ H2 _ I2 q2) fun vu s3 ⟨u,H3,I3,pu,q3⟩=>?_)
 rw [evalPart_none]
 refine wpAny_pure ?_
 have I4:Inv X pins σ H3 { s3 with heap:=s3.heap.push { cls:=.type "slice",data:=.fields #[vl,vu,.none] } }:=I3.kept (t':=s3.toks) fun b ob q=>Heap.get?_push_of_some _ q
 obtain⟨T,id,hT,ht,hg⟩:=hr pins { s3 with heap:=s3.heap.push { cls:=.type "slice",data:=.fields #[vl,vu,.none] } } σ H3 x v vl vu l u s3.heap.objs.size Q I4 r1 (Heap.IsSliceOf.new ..) pl pu q3
 show wpAny (model X.prog X.w) X.A (subscriptTail e (.Slice lo hi none p2) v (.ref s3.heap.objs.size)) (EP X pins σ Q) X.xe { s3 with heap:=s3.heap.push { cls:=.type "slice",data:=.fields #[vl,vu,.none] } }
 exact tail_any (ops:=[.ref s3.heap.objs.size,v]) ht hT hg (by with_unfolding_all rfl)
noncomputable def cutV (xs:List V) (lo hi:Option Int):List V:=(xs.drop (HT.sIx xs.length 0 lo)).take (HT.sIx xs.length xs.length hi - HT.sIx xs.length 0 lo)
theorem Qaw (xs:List V) (lo hi:Option Int):(cutV xs lo hi).length≤xs.length:=by
 unfold cutV
 rw [List.length_take,List.length_drop]
 omega
noncomputable def rSlT (K:PySem.W.Frag):V->Option Int->Option Int->Hp->VK->Prop:=fun x lo hi H Q=>∃ a xs,x=.ref a∧SqT K H a xs ∧
 ¬ (HT.sIx xs.length 0 lo=0∧HT.sIx xs.length xs.length hi=xs.length)∧∀ p,H p=none->Q (.ref p) (upd H p (.tup (cutV xs lo hi)))
theorem sl_tup:SlR X (rSlT X.K):=by
 intro pins s σ H x v vl vu lo hi sl Q I rx hs pl pu h
 obtain⟨a,xs,rfl,hx,hw,q⟩:=h
 cases rx
 obtain⟨its,r,ht,hz⟩:=I.tuple hx
 have hlen:its.toArray.size=xs.length:=by rw [List.size_toArray]; exact r.length.symm
 refine⟨"tuple",_,PyProof.Rows.slot_tuple_getitem.lookup,ht.typeIs,?_⟩
 refine HT.getItem_tuple_cut ht hs pl pu (by rw [hlen]; exact hw) ?_ (by rw [hlen]; exact hz)
 rw [hlen]
 refine⟨.ref s.heap.objs.size,_,I.laid (t':=s.toks) (o:=.tup (cutV xs lo hi)) (fun b ob q=>Heap.get?_push_of_some _ q) (Nat.le_refl _) ?_,rfl,q _ (I.hok.fresh (Nat.le_refl _))⟩
 exact⟨Nat.le_trans (Qaw xs lo hi) hz,_,(r.drop (HT.sIx xs.length 0 lo)).take (HT.sIx xs.length xs.length hi - HT.sIx xs.length 0 lo),IsTup.new _ _⟩
noncomputable def Qjt (K:PySem.W.Frag):R2:=fun x y H Q=>∃ a b xs ys,x=.ref a∧y=.ref b∧SqT K H a xs∧SqT K H b ys∧xs≠[]∧xs.length+ys.length≤sizeLine ∧
 (ys=[]->Q (.ref a) H)∧(ys≠[]->∀ p,H p=none->Q (.ref p) (upd H p (.tup (xs++ys))))
theorem Vals.nil_iff {xs:List V} {us:List Value} (r:Vals xs us):us=[]↔xs=[]:=by
 cases r with
 | nil=>simp
 | cons _ _=>simp
theorem QhZ:OpR X (binaryOp .Add) (Qjt X.K):=by
 intro pins s σ H x y v u Q I rx ry h
 obtain⟨a,b,xs,ys,rfl,rfl,ha,hb,hx,hz,q1,q2⟩:=h
 cases rx
 cases ry
 obtain⟨its,r1,p1,_⟩:=I.tuple ha
 obtain⟨its2,r2,p2,_⟩:=I.tuple hb
 refine HT.cat_tup p1 p2 (fun z=>hx (r1.nil_iff.mp z)) (fun z=>⟨.ref a,H,I,rfl,q1 (r2.nil_iff.mp z)⟩) (fun z=>?_) (by rw [← r1.length,← r2.length]; exact hz)
 refine⟨.ref s.heap.objs.size,_,I.laid (t':=s.toks) (o:=.tup (xs++ys)) (fun b ob q=>Heap.get?_push_of_some _ q) (Nat.le_refl _) ?_,rfl,q2 (fun w=>z (r2.nil_iff.mpr w)) _ (I.hok.fresh (Nat.le_refl _))⟩
 exact⟨by rw [List.length_append]; exact hz,_,r1.append r2,IsTup.new _ _⟩
end
end L2
namespace L2
open PySem PySem.Spec PyProof.Rows
noncomputable def ixN (n:Nat) (i:Int):Option Nat:=if 0≤i then (if i<n then some i.toNat else none) else if -(n:Int)≤i then some (i+n).toNat else none
noncomputable def atI {α:Type} (xs:List α) (i:Int):Option α:=(ixN xs.length i).bind fun j=>xs[j]?
theorem Qe4 {n:Nat} {i:Int} {j:Nat} (h:ixN n i=some j):seqIndex? i n=some j∧j<n ∧ -(n:Int)≤i∧i<n:=by
 unfold ixN at h
 by_cases h0:0≤i
 ·rw [if_pos h0] at h
  by_cases h1:i<n
  ·rw [if_pos h1] at h
   have e:i.toNat=j:=Option.some.inj h
   exact⟨by rw [seqIndex_of h0 h1,e],by omega,by omega,h1⟩
  ·rw [if_neg h1] at h; cases h
 ·rw [if_neg h0] at h
  by_cases h1 : -(n:Int)≤i
  ·rw [if_pos h1] at h
   have e:(i+n).toNat=j:=Option.some.inj h
   exact⟨by rw [seqIndex_neg (by omega) h1,e],by omega,h1,by omega⟩
  ·rw [if_neg h1] at h; cases h
theorem Qc6 {α:Type} {xs:List α} {i:Int} {v:α} (h:atI xs i=some v):∃ j,seqIndex? i xs.length=some j∧xs[j]?=some v∧j<xs.length ∧ -(xs.length:Int)≤i∧i<xs.length:=by
 unfold atI at h
 cases e:ixN xs.length i with
 | none=>rw [e] at h; cases h
 | some j =>
  rw [e] at h
  obtain⟨h1,h2,h3,h4⟩:=Qe4 e
  exact⟨j,h1,h,h2,h3,h4⟩
noncomputable def QbH (b:Expr):Prop:=∀ o i,subscripted b false o i=operate [o,i] (getItem o i)
noncomputable def IxR (X:Cx) (r:R2):Prop :=
 ∀(value slice:Expr) (pins:List (Addr×Obj)) (s:Shared) (σ:St) (H:Hp) (x y:V) (v u:Value) (Q:VK),Inv X pins σ H s->RelV x v->RelV y u->r x y H Q ->
  subscripted slice false v u=operate [v,u] (getItem v u)->wpAny (model X.prog X.w) X.A (subscriptTail value slice v u) (EP X pins σ Q) X.xe s
noncomputable def MtR (X:Cx) (id:String) (r:V->List V->Hp->VK->Prop):Prop :=
 ∀(pins:List (Addr×Obj)) (s:Shared) (σ:St) (H:Hp) (x:V) (xs:List V) (v:Value) (us:List Value) (Q:VK),Inv X pins σ H s->RelV x v->Vals xs us->r x xs H Q ->
  wpAny (model X.prog X.w) X.A (call (.builtin id) (v::us)) (EP X pins σ Q) X.xe s
section
variable {X:Cx} {a b:Expr} {ta tb:TE} {pos:Pos}
theorem IxR.or {r r':R2} (h:IxR X r) (h':IxR X r'):IxR X (fun x y H Q=>r x y H Q∨r' x y H Q):=by
 intro value slice pins s σ H x y v u Q I rx ry q hs
 rcases q with q | q
 ·exact h value slice pins s σ H x y v u Q I rx ry q hs
 ·exact h' value slice pins s σ H x y v u Q I rx ry q hs
theorem MtR.or {id:String} {r r':V->List V->Hp->VK->Prop} (h:MtR X id r) (h':MtR X id r'):MtR X id (fun x xs H Q=>r x xs H Q∨r' x xs H Q):=by
 intro pins s σ H x xs v us Q I rx rs q
 rcases q with q | q
 ·exact h pins s σ H x xs v us Q I rx rs q
 ·exact h' pins s σ H x xs v us Q I rx rs q
theorem QkP {r:R2} (hr:IxR X r) (ha:PE X a ta) (hb:PE X b tb) (hs:QbH b):PE X (.Subscript a b pos) (tOp r ta tb):=by
 intro pins s σ H Q I h
 exact Subscript_ (binT ha hb I h fun v u s2 x y H2 I2 rx ry q=>hr a b pins s2 σ H2 x y v u Q I2 rx ry q (hs _ _))
noncomputable def rIxL (K:PySem.W.Frag):R2:=fun x y H Q=>∃ p xs i v,x=.ref p∧y=.int i∧SqL K H p xs∧atI xs i=some v∧Q v H
noncomputable def rIxT (K:PySem.W.Frag):R2:=fun x y H Q=>∃ p xs i v,x=.ref p∧y=.int i∧SqT K H p xs∧atI xs i=some v∧Q v H
noncomputable def rIxS:R2:=fun x y H Q=>∃ z i c,x=.str z∧y=.int i∧z.length≤sizeLine∧atI z.cps.toList i=some c∧Q (.str ⟨#[c]⟩) H
theorem ix_list:IxR X (rIxL X.K):=by
 intro value slice pins s σ H x y v u Q I rx ry h hs
 obtain⟨p,xs,i,z,rfl,rfl,hq,he,q⟩:=h
 cases rx
 obtain⟨t,rfl⟩:=ry
 obtain⟨its,r,pl,hz⟩:=I.list hq
 obtain⟨j,h1,h2,h3,h4,h5⟩:=Qc6 he
 obtain⟨w,ew,rw'⟩:=r.get h2
 have hl:=r.length
 have hn:=Qcl
 have fin:EP X pins σ Q w s:=⟨z,H,I,rw',q⟩
 by_cases h0:0≤i
 ·have hj:i.toNat=j:=by
   rw [seqIndex_of h0 h5] at h1
   exact Option.some.inj h1
  exact item_listR pl.isList h0 (by omega) (by rw [hj]; simpa using ew) fin hs
 ·have hj:(i+(its.toArray.size:Int)).toNat=j:=by
   rw [seqIndex_neg (by omega) h4] at h1
   rw [List.size_toArray,← hl]
   exact Option.some.inj h1
  exact subscriptTail_builtinR (x:=w) pl.isList.typeIs slot_list_getitem.lookup
   (wpAny_getItem_list_neg (Q:=fun r s'=>r=w∧EP X pins σ Q r s') pl.isList (by omega) (by rw [List.size_toArray] <;> omega) (by omega) (by rw [hj]; simpa using ew) ⟨rfl,fin⟩) hs
theorem ix_tup:IxR X (rIxT X.K):=by
 intro value slice pins s σ H x y v u Q I rx ry h hs
 obtain⟨p,xs,i,z,rfl,rfl,hq,he,q⟩:=h
 cases rx
 obtain⟨t,rfl⟩:=ry
 obtain⟨its,r,pl,hz⟩:=I.tuple hq
 obtain⟨j,h1,h2,h3,h4,h5⟩:=Qc6 he
 obtain⟨w,ew,rw'⟩:=r.get h2
 have hl:=r.length
 have hn:=Qcl
 have fin:EP X pins σ Q w s:=⟨z,H,I,rw',q⟩
 exact subscriptTail_builtinR (x:=w) pl.typeIs slot_tuple_getitem.lookup
  (getItem_tuple (j:=j) (Q:=fun r s'=>r=w∧EP X pins σ Q r s') pl (by omega) (by omega) (by rw [List.size_toArray,← hl]; exact h1) (by simpa using ew) ⟨rfl,fin⟩) hs
theorem Qju:IxR X rIxS:=by
 intro value slice pins s σ H x y v u Q I rx ry h hs
 obtain⟨z,i,c,rfl,rfl,hz,he,q⟩:=h
 obtain⟨t,rfl⟩:=rx
 obtain⟨t',rfl⟩:=ry
 obtain⟨j,h1,h2,h3,h4,h5⟩:=Qc6 he
 have hl:z.cps.toList.length=z.length:=by simp [Str.length]
 rw [hl] at h1 h4 h5
 have hn:=Qcl
 exact tail_any (typeIs_str s z t) slot_str_getitem.lookup (getItem_str (c:=c) (by
  have e1:decide (i < -(2 ^ 63:Int))=false:=decide_eq_false (by omega)
  have e2:decide (i≥2 ^ 63)=false:=decide_eq_false (by omega)
  rw [e1,e2,Bool.or_false]) (by rw [h1]; simpa using h2) ⟨.str ⟨#[c]⟩,H,I.tok _,⟨_,rfl⟩,q⟩) hs
noncomputable def rIx (K:PySem.W.Frag):R2:=fun x y H Q=>rIxL K x y H Q∨rIxT K x y H Q∨rIxS x y H Q
theorem Qjv:IxR X (rIx X.K):=ix_list.or (ix_tup.or Qju)
theorem Qej (its:List Value) (n j:Nat) (u:Value):Obj.mapSeq (·.setIfInBounds j u) { cls:=.type "list",data:=.seq its.toArray n } = { cls:=.type "list",data:=.seq (its.set j u).toArray n }:=by
 simp [Obj.mapSeq]
theorem Inv.lst {pins:List (Addr×Obj)} {σ:St} {H:Hp} {s:Shared} {p:Addr} {xs:List V} (I:Inv X pins σ H s) (h:H p=some (.lst xs)) :
  ∃(its:List Value) (n:Nat),Vals xs its∧s.heap.get? p=some { cls:=.type "list",data:=.seq its.toArray n }∧xs.length≤sizeLine:=by
 obtain⟨z,its,n,r,e⟩:=I.hok p _ h
 exact⟨its,n,r,e,z⟩
theorem Inv.lstUpd {pins:List (Addr×Obj)} {σ:St} {H:Hp} {s:Shared} {p:Addr} {xs ys:List V} {its its':List Value} {n n':Nat} {f:Obj->Obj} (I:Inv X pins σ H s) (h:H p=some (.lst xs))
  (ho:s.heap.get? p=some { cls:=.type "list",data:=.seq its.toArray n }) (hf:f { cls:=.type "list",data:=.seq its.toArray n } = { cls:=.type "list",data:=.seq its'.toArray n' }) (r:Vals ys its') (hz:ys.length≤sizeLine) (t:Nat) :
  Inv X pins σ (upd H p (.lst ys)) { s with heap:=s.heap.update p f,toks:=t }:=by
 have e:(s.heap.update p f).get? p=some { cls:=.type "list",data:=.seq its'.toArray n' }:=by
  rw [Heap.get?_update_self f ho (by rw [hf] <;> rfl),hf]
 refine I.write (x:=p) (e:=p) (by rw [h]; trivial) (.inl rfl) (fun b u hb q=>(Heap.get?_update_other _ _ (Ne.symm hb)).trans q) ⟨_,e⟩ ?_
 exact⟨hz,its',n',r,e⟩
noncomputable def QkQ:V->V->V->Hp->(Hp->Prop)->Prop:=fun o i v H Q=>∃ p xs k j,o=.ref p∧i=.int k∧H p=some (.lst xs)∧ixN xs.length k=some j∧Q (upd H p (.lst (xs.set j v)))
theorem Qgu:PSet X QkQ:=by
 intro pins s σ H o i v ov iv u Q I ro ri rv h
 obtain⟨p,xs,k,j,rfl,rfl,hp,hj,q⟩:=h
 cases ro
 obtain⟨t,rfl⟩:=ri
 obtain⟨its,n,r,ho,hz⟩:=I.lst hp
 obtain⟨h1,h2,h3,h4⟩:=Qe4 hj
 have hl:=r.length
 have hn:=Qcl
 have I':Inv X pins σ (upd H p (.lst (xs.set j v))) { s with heap:=s.heap.update p (Obj.mapSeq (·.setIfInBounds j u)) } :=
  I.lstUpd hp ho (Qej its n j u) (r.set rv j) (by rw [List.length_set]; exact hz) s.toks
 by_cases h0:0≤k
 ·have hk:k.toNat=j:=by
   rw [seqIndex_of h0 h4] at h1
   exact Option.some.inj h1
  exact PySem.W.ki_setAt ho h0 (by omega) (by rw [List.size_toArray,← hl]; exact h4) (by rw [hk]; exact⟨_,I',q⟩)
 ·have hk:(k+(its.toArray.size:Int)).toNat=j:=by
   rw [seqIndex_neg (by omega) h3] at h1
   rw [List.size_toArray,← hl]
   exact Option.some.inj h1
  exact PySem.W.ki_setBack ho (by omega) (by rw [List.size_toArray,← hl]; exact h3) (by omega) (by rw [hk]; exact⟨_,I',q⟩)
theorem Qcq (lo hi:Option Int) (n:Nat):(sliceBounds lo hi none n).1=((HT.sIx n 0 lo:Nat):Int)∧(sliceBounds lo hi none n).2.1=((HT.sIx n n hi:Nat):Int)∧(sliceBounds lo hi none n).2.2=1:=by
 refine⟨?_,?_,rfl⟩
 ·cases lo with
  | none=>simp [sliceBounds,HT.sIx]
  | some i =>
   simp only [sliceBounds,HT.sIx,Option.getD_none,show(1:Int) > 0 by decide,if_true]
   by_cases h:i<0
   ·simp only [h,if_true] <;> omega
   ·simp only [h,if_false] <;> omega
 ·cases hi with
  | none=>simp [sliceBounds,HT.sIx]
  | some i =>
   simp only [sliceBounds,HT.sIx,Option.getD_none,show(1:Int) > 0 by decide,if_true]
   by_cases h:i<0
   ·simp only [h,if_true] <;> omega
   ·simp only [h,if_false] <;> omega
theorem QbI (its:List Value) (lo hi:Option Int):slicePick its.toArray lo hi none=((its.drop (HT.sIx its.length 0 lo)).take (HT.sIx its.length its.length hi - HT.sIx its.length 0 lo)).toArray:=by
 obtain⟨h1,h2,h3⟩:=Qcq lo hi its.toArray.size
 unfold slicePick
 rw [h1,h2,h3]
 simp only [sliceRange_one,pick_run,List.size_toArray] <;> rfl
noncomputable def rSlL (K:PySem.W.Frag):V->Option Int->Option Int->Hp->VK->Prop:=fun x lo hi H Q=>∃ a xs,x=.ref a∧SqL K H a xs∧∀ p,H p=none->Q (.ref p) (upd H p (.lst (cutV xs lo hi)))
theorem Qh0:SlR X (rSlL X.K):=by
 intro pins s σ H x v vl vu lo hi sl Q I rx hs pl pu h
 obtain⟨a,xs,rfl,hx,q⟩:=h
 cases rx
 obtain⟨its,r,ht,hz⟩:=I.list hx
 have hlen:=r.length
 refine⟨"list",_,slot_list_getitem.lookup,ht.isList.typeIs,?_⟩
 refine wpAny_getItem_list_slice ht.isList hs pl pu .none (by simp) ?_ (by rw [List.size_toArray] <;> omega)
 rw [QbI,← hlen]
 refine⟨.ref s.heap.objs.size,_,I.laid (t':=s.toks) (o:=.lst (cutV xs lo hi)) (fun b ob q=>Heap.get?_push_of_some _ q) (Nat.le_refl _) ?_,rfl,q _ (I.hok.fresh (Nat.le_refl _))⟩
 exact⟨Nat.le_trans (Qaw xs lo hi) hz,_,0,(r.drop (HT.sIx xs.length 0 lo)).take (HT.sIx xs.length xs.length hi - HT.sIx xs.length 0 lo),Heap.get?_push_size _ rfl⟩
noncomputable def Qba:V->Bool
 | .non=>true
 | .bl _=>true
 | .int _=>true
 | .str _=>true
 | _=>false
noncomputable def eqV:V->V->Bool
 | .non,.non=>true
 | .bl a,.bl b=>a == b
 | .bl a,.int b=>(if a then 1 else 0) == b
 | .int a,.bl b=>a == (if b then 1 else 0)
 | .int a,.int b=>a == b
 | .str a,.str b=>a == b
 | _,_=>false
theorem Qjw {A:Around} {s:Shared} {y x:V} {u v:Value} (ry:RelV y u) (rx:RelV x v) (fy:Qba y=true) (fx:Qba x=true):SeqAt.EqAt A s u v (eqV y x):=by
 cases y with
 | non =>
  cases ry
  cases x with
  | non=>cases rx; exact SeqAt.EqAt.same _
  | bl b=>cases rx; exact SeqAt.EqAt.none_bool b
  | int b=>obtain⟨t,rfl⟩:=rx; exact SeqAt.EqAt.none_int b t
  | str b=>obtain⟨t,rfl⟩:=rx; exact SeqAt.EqAt.none_str b t
  | _=>exact absurd (show false=true from fx) Bool.false_ne_true
 | bl a =>
  cases ry
  cases x with
  | non=>cases rx; exact SeqAt.EqAt.bool_none a
  | bl b=>cases rx; exact SeqAt.EqAt.bool_bool a b
  | int b=>obtain⟨t,rfl⟩:=rx; exact SeqAt.EqAt.bool_int a b t
  | str b=>obtain⟨t,rfl⟩:=rx; exact SeqAt.EqAt.bool_str a b t
  | _=>exact absurd (show false=true from fx) Bool.false_ne_true
 | int a =>
  obtain⟨t',rfl⟩:=ry
  cases x with
  | non=>cases rx; exact SeqAt.EqAt.int_none a t'
  | bl b=>cases rx; exact SeqAt.EqAt.int_bool a t' b
  | int b=>obtain⟨t,rfl⟩:=rx; exact SeqAt.EqAt.int_int a t' b t
  | str b=>obtain⟨t,rfl⟩:=rx; exact SeqAt.EqAt.int_str a t' b t
  | _=>exact absurd (show false=true from fx) Bool.false_ne_true
 | str a =>
  obtain⟨t',rfl⟩:=ry
  cases x with
  | non=>cases rx; exact SeqAt.EqAt.str_none a t'
  | bl b=>cases rx; exact SeqAt.EqAt.str_bool a t' b
  | int b=>obtain⟨t,rfl⟩:=rx; exact SeqAt.EqAt.str_int a t' b t
  | str b=>obtain⟨t,rfl⟩:=rx; exact SeqAt.EqAt.str_str a t' b t
  | _=>exact absurd (show false=true from fx) Bool.false_ne_true
 | _=>exact absurd (show false=true from fy) Bool.false_ne_true
noncomputable def eqU (x:V) (u:Value):Bool:=match u with
 | .none=>eqV .non x
 | .bool b=>eqV (.bl b) x
 | .int i _=>eqV (.int i) x
 | .str z _=>eqV (.str z) x
 | _=>false
theorem Qhm {x y:V} {u:Value} (r:RelV y u) (f:Qba y=true):eqU x u=eqV y x:=by
 cases y with
 | non=>cases r; rfl
 | bl b=>cases r; rfl
 | int i=>obtain⟨t,rfl⟩:=r; rfl
 | str z=>obtain⟨t,rfl⟩:=r; rfl
 | _=>exact absurd (show false=true from f) Bool.false_ne_true
theorem Qax {x:V}:∀ {xs:List V} {us:List Value},Vals xs us->xs.all Qba=true->us.any (eqU x)=xs.any fun y=>eqV y x
 | _,_,.nil,_=>rfl
 | y::xs,u::us,.cons r t,f=>by
  rw [List.all_cons,Bool.and_eq_true] at f
  rw [List.any_cons,List.any_cons,Qhm r f.1,Qax t f.2]
theorem Jv {A:Around} {s:Shared} {x:V} {v:Value} (rx:RelV x v) (fx:Qba x=true):∀ {xs:List V} {us:List Value},Vals xs us->xs.all Qba=true->∀ u∈us,SeqAt.EqAt A s u v (eqU x u)
 | _,_,.nil,_=>fun u hu=>by cases hu
 | y::xs,u::us,.cons r t,f=>fun u' hu=>by
  rw [List.all_cons,Bool.and_eq_true] at f
  rcases List.mem_cons.mp hu with rfl | hu
  ·rw [Qhm r f.1]; exact Qjw r rx f.1 fx
  ·exact Jv rx fx t f.2 u' hu
noncomputable def inV (x:V) (xs:List V):Bool:=xs.any fun y=>eqV y x
noncomputable def rIn (K:PySem.W.Frag) (neg:Bool):R2:=fun x y H Q=>∃ p xs,y=.ref p∧(SqL K H p xs∨SqT K H p xs)∧Qba x=true∧xs.all Qba=true∧Q (.bl (if neg then !inV x xs else inV x xs)) H
theorem Qcr:OpR X (compareOp .In) (rIn X.K false):=by
 intro pins s σ H x y v u Q I rx ry h
 obtain⟨p,xs,rfl,hq,fx,fs,q⟩:=h
 cases ry
 rcases hq with hq | hq
 ·obtain⟨its,r,pl,hz⟩:=I.list hq
  refine SeqAt.in_listAt (eqU x) pl.isList (fun w hw=>Jv rx fx r fs w (by simpa using hw)) ⟨.bl _,H,I,rfl,?_⟩
  rw [show its.toArray.any (eqU x)=its.any (eqU x) by simp,Qax r fs]
  exact q
 ·obtain⟨its,r,pl,hz⟩:=I.tuple hq
  refine SeqAt.in_tupleAt (eqU x) pl (fun w hw=>Jv rx fx r fs w (by simpa using hw)) ⟨.bl _,H,I,rfl,?_⟩
  rw [show its.toArray.any (eqU x)=its.any (eqU x) by simp,Qax r fs]
  exact q
theorem Qcs:OpR X (compareOp .NotIn) (rIn X.K true):=by
 intro pins s σ H x y v u Q I rx ry h
 obtain⟨p,xs,rfl,hq,fx,fs,q⟩:=h
 cases ry
 rcases hq with hq | hq
 ·obtain⟨its,r,pl,hz⟩:=I.list hq
  refine SeqAt.notIn_listAt (eqU x) pl.isList (fun w hw=>Jv rx fx r fs w (by simpa using hw)) ⟨.bl _,H,I,rfl,?_⟩
  rw [show its.toArray.any (eqU x)=its.any (eqU x) by simp,Qax r fs]
  exact q
 ·obtain⟨its,r,pl,hz⟩:=I.tuple hq
  refine SeqAt.notIn_tupleAt (eqU x) pl (fun w hw=>Jv rx fx r fs w (by simpa using hw)) ⟨.bl _,H,I,rfl,?_⟩
  rw [show its.toArray.any (eqU x)=its.any (eqU x) by simp,Qax r fs]
  exact q
theorem Qct:CallR X (.builtin "len") (fun xs H Q=>∃ p ys,xs=[.ref p]∧(SqL X.K H p ys∨SqT X.K H p ys)∧Q (.int ys.length) H):=by
 intro pins s σ H xs us Q I r h
 obtain⟨p,ys,rfl,hq,q⟩:=h
 obtain⟨u,rfl,rx⟩:=Qeg r
 cases rx
 have hn:=Qcl
 rcases hq with hq | hq
 ·obtain⟨its,r',pl,hz⟩:=I.list hq
  have hlen:=r'.length
  exact Calls.call_len_list pl.isList (by simp only [List.size_toArray] <;> omega) ⟨.int ys.length,H,I.tok _,⟨s.toks+1,by rw [List.size_toArray,hlen]⟩,q⟩
 ·obtain⟨its,r',pl,hz⟩:=I.tuple hq
  have hlen:=r'.length
  exact len_tuple pl (by simp only [List.size_toArray] <;> omega) ⟨.int ys.length,H,I.tok _,⟨s.toks+1,by rw [List.size_toArray,hlen]⟩,q⟩
theorem CallR.or {f:Value} {r r':List V->Hp->VK->Prop} (h:CallR X f r) (h':CallR X f r'):CallR X f (fun xs H Q=>r xs H Q∨r' xs H Q):=by
 intro pins s σ H xs us Q I rs q
 rcases q with q | q
 ·exact h pins s σ H xs us Q I rs q
 ·exact h' pins s σ H xs us Q I rs q
theorem Qcu:CallR X (.type "list") (fun xs H Q=>∃ p ys,xs=[.ref p]∧(SqL X.K H p ys∨SqT X.K H p ys)∧∀ l,H l=none->Q (.ref l) (upd H l (.lst ys))):=by
 intro pins s σ H xs us Q I r h
 obtain⟨p,ys,rfl,hq,q⟩:=h
 obtain⟨u,rfl,rx⟩:=Qeg r
 cases rx
 have fin:∀(its:List Value),Vals ys its->ys.length≤sizeLine->∀(h':Heap) (c':Nat),(∀ b o',s.heap.get? b=some o'->h'.get? b=some o') ->
   h'.get? s.heap.objs.size=some { cls:=.type "list",dict:=none,data:=.seq its.toArray c',slots:=#[] }->EP X pins σ Q (.ref s.heap.objs.size) { s with heap:=h' }:=fun its r' hz h' c' kp e =>
  ⟨.ref s.heap.objs.size,_,I.laid (t':=s.toks) kp (Nat.le_refl _) (show ObjOk X.prog X.w _ h' _ (.lst ys) from ⟨hz,its,c',r',e⟩),rfl,q _ (I.hok.fresh (Nat.le_refl _))⟩
 rcases hq with hq | hq
 ·obtain⟨its,r',pl,hz⟩:=I.list hq
  have hlen:=r'.length
  obtain⟨o,ho,hc,n,hd⟩:=pl.isList
  exact call_list_seq p (.inl rfl) ho hc hd (fun h' c' kp e=>fin its r' hz h' c' kp e) (by simp only [List.size_toArray] <;> omega)
 ·obtain⟨its,r',pl,hz⟩:=I.tuple hq
  have hlen:=r'.length
  obtain⟨o,ho,hc,n,hd⟩:=pl
  exact call_list_seq p (.inr rfl) ho hc hd (fun h' c' kp e=>fin its r' hz h' c' kp e) (by simp only [List.size_toArray] <;> omega)
theorem QbJ:CallR X (.type "tuple") (fun xs H Q=>∃ p ys,xs=[.ref p]∧((SqL X.K H p ys∧∀ l,H l=none->Q (.ref l) (upd H l (.tup ys)))∨(SqT X.K H p ys∧Q (.ref p) H))):=by
 intro pins s σ H xs us Q I r h
 obtain⟨p,ys,rfl,h⟩:=h
 obtain⟨u,rfl,rx⟩:=Qeg r
 cases rx
 rcases h with⟨hq,q⟩ | ⟨hq,q⟩
 ·obtain⟨its,r',pl,hz⟩:=I.list hq
  have hlen:=r'.length
  refine call_tuple_list pl.isList (fun h' kp=>?_) (by simp only [List.size_toArray] <;> omega)
  have I1:Inv X pins σ H { s with heap:=h' }:=I.kept (t':=s.toks) kp
  have I2:Inv X pins σ (upd H h'.objs.size (.tup ys)) { s with heap:=h'.push { cls:=.type "tuple",data:=.seq its.toArray } } :=
   I1.laid (t':=s.toks) (fun b o e=>Heap.get?_push_of_some _ e) (Nat.le_refl _) (show ObjOk X.prog X.w _ _ _ (.tup ys) from ⟨hz,its,r',IsTup.new _ _⟩)
  exact⟨.ref h'.objs.size,_,I2,rfl,q _ (I1.hok.fresh (Nat.le_refl _))⟩
 ·obtain⟨its,r',pl,hz⟩:=I.tuple hq
  exact call_tuple_same pl ⟨.ref p,H,I,rfl,q⟩
noncomputable def tyV (K:PySem.W.Frag) (T:String) (x:V) (H:Hp):Prop:=match x with
 | .str _=>T = "str"
 | .int _=>T = "int"
 | .ref p=>(T = "list" ∧ ∃ xs,SqL K H p xs)∨(T = "tuple" ∧ ∃ o,K.lookup p=some o∧o.cls=.type "tuple" ∧ o.dict=none) ∨
   (T = "dict" ∧ ((∃ kvs,H p=some (.dK kvs))∨∃ kvs,H p=some (.dT kvs)))∨(T = "set" ∧ ∃ S n,H p=some (.set S n))
 | _=>False
theorem Qhn {pins:List (Addr×Obj)} {σ:St} {H:Hp} {s:Shared} {T:String} {x:V} {v:Value} (I:Inv X pins σ H s) (r:RelV x v) (ty:tyV X.K T x H) :
  s.TypeIs v T∧∀ a,v=.ref a->∃ ob,s.heap.get? a=some ob∧ob.dict=none:=by
 cases x with
 | str z =>
  obtain⟨t,rfl⟩:=r
  cases (show T = "str" from ty)
  exact⟨typeIs_str s z t,fun _ e=>nomatch e⟩
 | int i =>
  obtain⟨t,rfl⟩:=r
  cases (show T = "int" from ty)
  exact⟨typeIs_int s i t,fun _ e=>nomatch e⟩
 | ref p =>
  cases r
  rcases ty with⟨rfl,xs,hq⟩ | ⟨rfl,o,hk,hc,hd⟩ | ⟨rfl,hk⟩ | ⟨rfl,S,n,hk⟩
  ·obtain⟨its,_,pl,_⟩:=I.list hq
   refine⟨pl.isList.typeIs,fun a e=>?_⟩
   cases e
   obtain⟨o,n,e,c,hd,_⟩:=pl
   exact⟨o,e,hd⟩
  ·refine⟨⟨o,I.kIn p o hk,hc⟩,fun a e=>?_⟩
   cases e
   exact⟨o,I.kIn _ o hk,hd⟩
  ·have z:∃ o,s.heap.get? p=some o∧o.ExactDict:=by
    rcases hk with⟨kvs,hk⟩ | ⟨kvs,hk⟩
    ·obtain⟨_,_,_,_,o,_,_,e,ex,_⟩:=I.hok p _ hk
     exact⟨o,e,ex⟩
    ·obtain⟨_,_,_,_,o,_,_,e,ex,_⟩:=I.hok p _ hk
     exact⟨o,e,ex⟩
   obtain⟨o,e,ex⟩:=z
   refine⟨⟨o,e,ex.1⟩,fun a e2=>?_⟩
   cases e2
   exact⟨o,e,ex.2.1⟩
  ·obtain⟨o,_,_,_,e,ex,_⟩:=I.hok p _ hk
   refine⟨⟨o,e,ex.1⟩,fun a e2=>?_⟩
   cases e2
   exact⟨o,e,ex.2.1⟩
 | _=>exact False.elim ty
noncomputable def tBM0 (K:PySem.W.Frag) (T:String) (r:V->List V->Hp->VK->Prop) (to:TE):TE:=fun σ H Q=>to σ H fun x H1=>tyV K T x H1∧r x [] H1 Q
noncomputable def tBM (K:PySem.W.Frag) (T:String) (r:V->List V->Hp->VK->Prop) (to:TE) (t:TA):TE:=fun σ H Q=>to σ H fun x H1=>tyV K T x H1∧t σ H1 fun xs H2=>r x xs H2 Q
variable {o e:Expr} {es:List Expr} {to:TE} {t:TA} {name:Str} {apos cpos:Pos} {T id:String} {r:V->List V->Hp->VK->Prop}
theorem Qjx (pa:PlainAttrs T) (slot:Slot T name id) (hty:typeOf (.builtin id)=pure (.type "method_descriptor")) (hm:MtR X id r) (ho:PE X o to)
  (hbase:attributeBase o name X.env (eval o X.env)=eval o X.env:=by rfl) (hline:(apos.endLine == cpos.line)=true:=by rfl):PE X (.Call (.Attribute o name apos) [] [] cpos) (tBM0 X.K T r to):=by
 intro pins s σ H Q I h
 refine wpAny_Call_method0_late hbase hline (thn (ho pins s σ H _ I h) fun v s1 ⟨x,H1,I1,r1,ty,q1⟩=>?_)
 obtain⟨h1,h2⟩:=Qhn I1 r1 ty
 exact⟨T,id,pa,slot,hty,h1,h2,Calls.callWith_builtin rfl (PySem.evalArgs_none (hm pins s1 σ H1 x [] v [] Q I1 r1 .nil q1))⟩
theorem Qjy (pa:PlainAttrs T) (slot:Slot T name id) (hty:typeOf (.builtin id)=pure (.type "method_descriptor")) (hm:MtR X id r) (ho:PE X o to) (ha:PA X (e::es) t)
  (hbase:attributeBase o name X.env (eval o X.env)=eval o X.env:=by rfl)
  (hfew:((backTo cpos (starEach (e::es) X.env)).all (fun x=>!x.1) && (backToKw cpos (keywordEach [] X.env)).all (fun x=>x.1.isSome)
   && decide ((e::es).length+([]:List Keyword).length+(if ([]:List Keyword).isEmpty then 0 else 1)<30))=true:=by rfl)
  (hline:(apos.endLine == cpos.line)=true:=by rfl) (hs:starEach (e::es) X.env=(false,eval e X.env)::starEach es X.env:=by rfl) (hplain:(backTo cpos (starEach es X.env)).any (·.1)=false:=by rfl) :
  PE X (.Call (.Attribute o name apos) (e::es) [] cpos) (tBM X.K T r to t):=by
 intro pins s σ H Q I h
 refine wpAny_Call_method_late hbase hfew hline rfl (thn (ho pins s σ H _ I h) fun v s1 ⟨x,H1,I1,r1,ty,q1⟩=>?_)
 obtain⟨h1,h2⟩:=Qhn I1 r1 ty
 refine⟨T,id,pa,slot,hty,h1,h2,?_⟩
 have hA:=ha cpos pins s1 σ H1 _ I1 q1
 rw [hs] at hA ⊢
 refine Calls.callWith_builtin (by show(false || (backTo cpos (starEach es X.env)).any (·.1))=false; rw [hplain] <;> rfl) (Calls.evalArgs_plain ?_)
 exact thn hA fun us s2 ⟨vs,H2,I2,r2,q2⟩=>hm pins s2 σ H2 x vs v us Q I2 r1 r2 q2
end
end L2
namespace L2
open PySem PySem.Spec PyProof.Rows
noncomputable def MtM (X:Cx) (id:String) (r:V->List V->Hp->VK->Prop):Prop :=
 ∀(pins:List (Addr×Obj)) (s:Shared) (σ:St) (H:Hp) (x:V) (xs:List V) (v:Value) (us:List Value) (Q:VK),Inv X pins σ H s->RelV x v->Vals xs us->r x xs H Q ->
  wpAny (model X.prog X.w) X.A (call (.builtin id) (v::us)) (EP X pins σ Q) X.xe s
theorem Vals.one:∀ {x:V} {us:List Value},Vals [x] us->∃ u,us=[u]∧RelV x u
 | _,_,.cons r .nil=>⟨_,rfl,r⟩
theorem Vals.two:∀ {x y:V} {us:List Value},Vals [x,y] us->∃ u v,us=[u,v]∧RelV x u∧RelV y v
 | _,_,_,.cons r (.cons q .nil)=>⟨_,_,rfl,r,q⟩
theorem Vals.zero:∀ {us:List Value},Vals [] us->us=[]
 | _,.nil=>rfl
theorem Vals.eraseIdx:∀ {xs:List V} {us:List Value} (i:Nat),Vals xs us->Vals (xs.eraseIdx i) (us.eraseIdx i)
 | _,_,_,.nil=>.nil
 | _,_,0,.cons _ t=>t
 | _,_,i+1,.cons r t=>.cons r (Vals.eraseIdx i t)
theorem Vals.reverse {xs:List V} {us:List Value} (h:Vals xs us):Vals xs.reverse us.reverse:=by
 induction h with
 | nil=>exact .nil
 | cons r t ih=>rw [List.reverse_cons,List.reverse_cons]; exact Vals.append ih (.cons r .nil)
theorem Vals.rep {xs:List V} {us:List Value} (h:Vals xs us):∀ k:Nat,Vals (List.replicate k xs).flatten (List.replicate k us).flatten
 | 0=>.nil
 | k+1=>by
  rw [List.replicate_succ,List.replicate_succ,List.flatten_cons,List.flatten_cons]
  exact Vals.append h (Vals.rep h k)
theorem foldl_rep (its:List Value):∀(k:Nat) (acc:List Value),
  List.foldl (fun x1 x2=>x1++x2) acc.toArray (List.replicate k its.toArray)=(acc++(List.replicate k its).flatten).toArray
 | 0,acc=>by simp
 | k+1,acc=>by
  have e:acc.toArray++its.toArray=(acc++its).toArray:=by simp
  have e2:(acc++its)++(List.replicate k its).flatten=acc++(List.replicate (k+1) its).flatten:=by
   rw [List.replicate_succ,List.flatten_cons,List.append_assoc]
  rw [← e2,← foldl_rep its k (acc++its),← e,List.replicate_succ,List.foldl_cons]
section
variable {X:Cx} {pins:List (Addr×Obj)} {σ:St} {H:Hp} {s:Shared} {l b:Addr} {xs ys zs:List V}
theorem Inv.lset {its its':List Value} {n:Nat} {f:Array Value->Array Value} {t':Nat} (I:Inv X pins σ H s) (hH:H l=some (.lst xs))
  (e:s.heap.get? l=some { cls:=.type "list",data:=.seq its.toArray n }) (hf:f its.toArray=its'.toArray) (hv:Vals ys its') (hz:ys.length≤sizeLine) :
  Inv X pins σ (upd H l (.lst ys)) { s with heap:=s.heap.update l (Obj.mapSeq f),toks:=t' }:=by
 have q:=PySem.IsL.update e f
 rw [hf] at q
 refine I.write (x:=l) (e:=l) (by rw [hH]; exact trivial) (.inl rfl) (fun b' u hb hu=>(Heap.get?_update_other s.heap (Obj.mapSeq f) (Ne.symm hb)).trans hu) ⟨_,q⟩ ?_
 exact⟨hz,its',_,hv,q⟩
theorem Inv.lnew {its:List Value} {t':Nat} (I:Inv X pins σ H s) (hv:Vals ys its) (hz:ys.length≤sizeLine) :
  Inv X pins σ (upd H s.heap.objs.size (.lst ys)) { s with heap:=s.heap.push { cls:=.type "list",data:=.seq its.toArray },toks:=t' } :=
 I.laid (fun _ _ q=>Heap.get?_push_of_some _ q) (Nat.le_refl _) ⟨hz,its,0,hv,Heap.get?_push_size _ rfl⟩
theorem Inv.fresh (I:Inv X pins σ H s):H s.heap.objs.size=none:=I.hok.fresh (Nat.le_refl _)
theorem Inv.lstM (I:Inv X pins σ H s) (hH:H l=some (.lst xs)):xs.length≤sizeLine∧∃(its:List Value) (n:Nat),Vals xs its∧xs.length=its.length∧s.heap.get? l=some { cls:=.type "list",data:=.seq its.toArray n }:=by
 obtain⟨z,its,n,r,e⟩:=I.hok l _ hH
 exact⟨z,its,n,r,r.length,e⟩
theorem QdB {n:Nat} (h:n≤sizeLine):Builtin.List.listTooLong n=false:=by
 unfold Builtin.List.listTooLong
 exact decide_eq_false (by omega)
end
section
variable {X:Cx}
noncomputable def Qh1:V->List V->Hp->VK->Prop:=fun x vs H Q=>∃ l xs y,x=.ref l∧vs=[y]∧H l=some (.lst xs)∧xs.length<sizeLine∧Q .non (upd H l (.lst (xs++[y])))
theorem Qe5:MtM X "list.append" Qh1:=by
 intro pins s σ H x vs v us Q I rx rv h
 obtain⟨l,xs,y,rfl,rfl,hH,hz,q⟩:=h
 cases rx
 obtain⟨u,rfl,ru⟩:=rv.one
 obtain⟨z,its,n,r,hl,e⟩:=I.lstM hH
 refine call_meets F.slot_list_append ⟨_,e,rfl⟩ F.entry_list_append (F.args_list_append_2 _ _) (PySem.list_append l its.toArray n u (by rw [List.size_toArray]; omega)) ⟨e,?_⟩
 refine⟨.non,_,I.lset (its':=its++[u]) hH e (by simp) (r.append (.cons ru .nil)) ?_,rfl,q⟩
 rw [List.length_append,List.length_singleton]
 omega
noncomputable def Qe6:V->List V->Hp->VK->Prop:=fun x vs H Q=>∃ l b xs zs,x=.ref l∧vs=[.ref b]∧H l=some (.lst xs)∧H b=some (.lst zs)∧xs.length+zs.length≤sizeLine∧Q .non (upd H l (.lst (xs++zs)))
theorem Qe7:MtM X "list.extend" Qe6:=by
 intro pins s σ H x vs v us Q I rx rv h
 obtain⟨l,b,xs,zs,rfl,rfl,hH,hB,hz,q⟩:=h
 cases rx
 obtain⟨u,rfl,ru⟩:=rv.one
 cases ru
 obtain⟨z,its,n,r,hl,e⟩:=I.lstM hH
 obtain⟨z2,its2,n2,r2,hl2,e2⟩:=I.lstM hB
 have hsz:its.toArray.size+its2.toArray.size≤sizeLine:=by rw [List.size_toArray,List.size_toArray]; omega
 have hlong:¬ (!its.toArray.isEmpty && Builtin.List.listTooLong (its.toArray.size+its2.toArray.size))=true:=by
  rw [QdB hsz,Bool.and_false]
  exact Bool.false_ne_true
 refine call_meets F.slot_list_extend ⟨_,e,rfl⟩ F.entry_list_extend (F.args_list_extend_2 _ _)
  (AutoSeq1.list_extend_list_list_0 l its.toArray n b its2.toArray n2 hlong (by rw [List.size_toArray]; omega) (by omega)) ⟨e,e2,?_⟩
 refine⟨.non,_,I.lset (its':=its++its2) hH e (by simp) (r.append r2) ?_,rfl,q⟩
 rw [List.length_append]
 omega
noncomputable def Qjz:V->List V->Hp->VK->Prop:=fun x vs H Q=>∃ l xs,x=.ref l∧vs=[]∧H l=some (.lst xs)∧Q .non (upd H l (.lst []))
theorem mt_clear:MtM X "list.clear" Qjz:=by
 intro pins s σ H x vs v us Q I rx rv h
 obtain⟨l,xs,rfl,rfl,hH,q⟩:=h
 cases rx
 have hus:=rv.zero
 subst hus
 obtain⟨z,its,n,r,hl,e⟩:=I.lstM hH
 refine call_meets F.slot_list_clear ⟨_,e,rfl⟩ F.entry_list_clear (F.args_list_clear_1 _) (AutoSeq1.list_clear_list_0 l its.toArray n (by rw [List.size_toArray]; omega)) ⟨e,?_⟩
 exact⟨.non,_,I.lset (its':=[]) (ys:=[]) hH e rfl .nil (Nat.zero_le _),rfl,q⟩
noncomputable def rCat:R2:=fun x y H Q=>∃ l b xs zs,x=.ref l∧y=.ref b∧H l=some (.lst xs)∧H b=some (.lst zs)∧xs.length+zs.length≤sizeLine∧∀ p,H p=none->Q (.ref p) (upd H p (.lst (xs++zs)))
theorem QjA:OpR X (binaryOp .Add) rCat:=by
 intro pins s σ H x y v u Q I rx ry h
 obtain⟨l,b,xs,zs,rfl,rfl,hH,hB,hz,q⟩:=h
 cases rx
 cases ry
 obtain⟨z,its,n,r,hl,e⟩:=I.lstM hH
 obtain⟨z2,its2,n2,r2,hl2,e2⟩:=I.lstM hB
 refine PySem.P.add_list e e2 ?_ (by rw [List.size_toArray,List.size_toArray]; omega)
 have ea:its.toArray++its2.toArray=(its++its2).toArray:=by simp
 rw [ea]
 exact⟨.ref _,_,I.lnew (t':=s.toks) (r.append r2) (by rw [List.length_append]; omega),rfl,q _ I.fresh⟩
theorem Qh2 {α:Type} (xs:List α) (k:Nat):(List.replicate k xs).flatten.length=k*xs.length:=by
 induction k with
 | zero=>simp
 | succ k ih=>rw [List.replicate_succ,List.flatten_cons,List.length_append,ih,Nat.succ_mul,Nat.add_comm]
end
section
variable {prog:Program} {w:World} {A:Around} {E:Value->Shared->Prop} {s:Shared}
end
section
variable {X:Cx}
end
end L2
namespace Att
open PySem PySem.W PySem.Calls PyProof.Rows
theorem Qay {P:Params} {h:Heap}:∀(ns:List Int) (vs:List Value),WellAll P h vs (ns.map WData.int)->IntsAre vs ns:=by
 intro ns
 induction ns with
 | nil =>
  intro vs w
  rw [List.map_nil] at w
  cases w
  exact .nil
 | cons n ns ih =>
  intro vs w
  rw [List.map_cons] at w
  cases w with
  | cons a b =>
   cases a
   exact .cons _ _ (ih _ b)
theorem Qe8 {l:OpenLaw} {n:Nat} (hn:l.most=some n) {P:Params} {h:Heap} {args:List WData} {vals:List Value}
  (hpre:l.row.toRowW.claim.pre args=true) (hwl:WellAll P h vals args) :
  ∃ a vs ns,vals=[Value.ref a]∧args=[WData.list (ns.map WData.int)]∧h.get? a=some { cls:=.type "list",data:=.seq vs.toArray }∧IntsAre vs ns∧ns.length≤n:=by
 have hsh:WShape.hasAll [] args [.list .int]=true:=(pre_splitW hpre).1
 have hc:l.pre.holds [] { args:=args }=true:=(pre_splitW hpre).2
 obtain⟨d,r,rfl,h1,h2⟩:=hasAllW_cons hsh
 obtain rfl:=hasAllW_nil h2
 obtain⟨xs,rfl,h3⟩:=hasW_list h1
 obtain⟨ns,rfl⟩:=items_int h3
 have hlen:ns.length≤n:=by
  unfold OpenLaw.pre at hc
  have h4:(WTm.not (.lt (.lit (.int (n:Int))) (.len (.arg 0)))).holds [] { args:=[.list (ns.map .int)] }=true:=by
   have h4:=(holds_andW hc).1
   rw [hn] at h4
   exact h4
  have h5:=condW_of h4 (w_not (w_lt w_lit (w_len_list (w_arg rfl))))
  rw [List.length_map] at h5
  refine Nat.le_of_not_lt fun q=>?_
  have q':(n:Int)<((ns.length:Nat):Int):=by omega
  first
   | (rw [decide_eq_true q'] at h5; exact absurd h5 (by decide))
   | (simp at h5; omega)
 cases hwl with
 | cons w1 w2 =>
  cases w2
  cases w1 with
  | list ho hall=>exact⟨_,_,ns,rfl,rfl,ho,Qay ns _ hall,hlen⟩
theorem Qe9 (l:OpenLaw) (args:List WData):l.row.toRowW.claim.post args (.bool true) args=true :=
 postW_of (r:=l.row.toRowW) (X:=(true == true))
  (show WShape.has [] (.bool true) .bool=true by first | rfl | decide | simp [WShape.has,WShape.arms,WShape.armsAll])
  (show(WTm.eq .res (.lit (.bool true))).value [] { args:=args,res:=some (.bool true),after:=args }=some (.bool (true == true)) from w_eq_bool (w_res rfl) w_lit) rfl
theorem attach_call {l:OpenLaw} {n:Nat} {q:Program} {loose:List Str} {XP:(Str->Option Value)->Heap->Prop} {YP:World->Heap->Prop} {d:DefRec}
  (hn:l.most=some n) (hdf:d.params.defaults=[])
  (call:∀(w:World) (s₀ s₁:Shared) (mg mb:Str->Option Value) (fa:Addr) (o:Obj) (pm cd doc:Value) (a:Addr) (vs:List Value) (ns:List Int),
   Ground q loose [] XP w s₀ mg mb s₁.heap->YP w s₁.heap ->
   s₁.heap.get? fa=some o->o.data=.func (docDef d.name d.params d.body d.scope pm cd doc)->s₁.heap.CodeRec cd d.name->mg d.name=some (.ref fa) ->
   s₁.heap.get? a=some { cls:=.type "list",data:=.seq vs.toArray }->IntsAre vs ns->ns.length≤n->s₁.gens = #[] ->
   codeAny (model l.prog w) callerA (.call (.ref fa) ⟨[.ref a],[]⟩) (fun r s'=>r=.ok (.ret (.bool true))∧OldK s₁.heap s'.heap∧s'.os=s₁.os∧AllBare s'.gens) s₁) :
  WalkO q loose XP YP l.row.toRowW d [] (fun f vs=>PySem.call f vs):=by
 intro w s₀ s₁ mg mb G Y fa o pm cd doc dV kV ho hd hcd hD hmg hg args vals as hpre hlay hrd hwl hlo
 obtain rfl:dV=.none:=Dflts.none hD hdf
 obtain rfl:kV=.none:=Dflts.noKw hD
 obtain⟨a,vs,ns,rfl,rfl,hobj,hints,hlen⟩:=Qe8 hn hpre hwl
 refine enter_call (codeAny_mono (call w s₀ s₁ mg mb fa o pm cd doc a vs ns G Y ho (fd_plain hd) hcd hmg hobj hints hlen hg) fun r s' hq=>?_)
 obtain⟨rfl,h2,h3,h4⟩:=hq
 exact⟨.inl ⟨.bool true,.bool true,[],rfl,fun _=>rfl,.bool true,Qe9 l _,fun _=>⟨List.Pairwise.nil,fun _ hm=>(nomatch hm)⟩⟩,h2,h3,h4⟩
section
variable {prog:Program} {w:World} {A:Around} {E:Value->Shared->Prop} {s:Shared} {K:Frag}
end
end Att
namespace L2
open PySem PySem.Spec PyProof.Rows
theorem Qcv:∀ {vs:List Value} {ns:List Int},IntsAre vs ns->Vals (ns.map V.int) vs
 | _,_,.nil=>.nil
 | _,_,.cons n t h=>.cons ⟨t,rfl⟩ (Qcv h)
noncomputable def Only (H:Hp):Prop:=∀ b,H b=none∨∃ o xs,H b=some (.frz o (.lst xs))
theorem Qgv {P:Program} {w:World} {K:PySem.W.Frag} {mg mb:Str->Option Value} {CX:CXT} {k:Nat} {fa a:Addr} {fd:FuncData} {x:Str} {sp:Sp} {s₁:Shared} {vs:List Value} {ns:List Int}
  (KX:K.In s₁.heap) (hns:s₁.heap.Ns mainGlobals mg) (hb:s₁.heap.Ns builtinsNs mb) (hbb:∀ x:Str,x ≠ "__name__" -> mb x=bootBuiltins x) (hlim:s₁.heap.NoLimit) (hg:s₁.gens = #[])
  (ha:s₁.heap.get? a=some { cls:=.type "list",data:=.seq vs.toArray }) (hi:IntsAre vs ns) (hl:ns.length≤sizeLine) (hr:Room k callerA)
  (F:∀ base:Heap,K.In base->base.Ns mainGlobals mg->FnOk P w K mg base CX k fa fd [x] sp) (hbind:∀(s:Shared) (u:Value),BindsTo s fd ⟨[u],[]⟩ [(x,u)])
  (hsp:∀ H:Hp,Only H->SqL K H a (ns.map V.int)->sp [.ref a] H (fun v _=>v=.bl true) fun _ _ _=>False)
  (hCX:∀ H e s',CX [] H s₁ (fun _ _ _=>False) e s'->False) :
  codeAny (model P w) callerA (.call (.ref fa) ⟨[.ref a],[]⟩) (fun r s'=>r=.ok (.ret (.bool true))∧OldK s₁.heap s'.heap∧s'.os=s₁.os∧AllBare s'.gens) s₁:=by
 have rv:=Qcv hi
 have lenV:=hi.length
 -- from an abstract heap in which nothing but the script may be tracked
 have core:∀ H:Hp,Only H->SqL K H a (ns.map V.int)->HOk P w H s₁.heap->(∀ b,H b≠none->b=a)->(H a≠none->K.lookup a=none) ->
   codeAny (model P w) callerA (.call (.ref fa) ⟨[.ref a],[]⟩) (fun r s'=>r=.ok (.ret (.bool true))∧OldK s₁.heap s'.heap∧s'.os=s₁.os∧AllBare s'.gens) s₁:=by
  intro H hO hS hok hA hK
  have base_of:∀ {b:Addr} {o:Obj},s₁.heap.get? b=some o->H b=none->(hidT s₁.heap H).get? b=some o:=fun e n=>Qgm e n
  have noA:∀ {b:Addr} {o:Obj} {es:Array DictEntry} {ep:Nat},s₁.heap.get? b=some o->o.data=.dict es ep->H b=none:=fun {b o es ep} e d=>by
   cases q:H b with
   | none=>rfl
   | some u =>
    have e':b=a:=hA b (by rw [q]; simp)
    subst e'
    rw [ha] at e; cases e
    have d':Data.seq vs.toArray _=Data.dict es ep:=d
    cases d'
  have nsK:∀ {b:Addr} {m:Str->Option Value},s₁.heap.Ns b m->(hidT s₁.heap H).Ns b m:=fun {b m} ⟨o,es,ep,e,d,r⟩=>⟨o,es,ep,base_of e (noA e d),d,r⟩
  have hKb:K.In (hidT s₁.heap H):=fun b o e=>base_of (KX b o e) (by
   cases q:H b with
   | none=>rfl
   | some u =>
    have e':b=a:=hA b (by rw [q]; simp)
    subst e'
    rw [hK (by rw [q]; simp)] at e; cases e)
  have hM:Mod K mg (hidT s₁.heap H):=⟨hKb,nsK hns,⟨mb,nsK hb,hbb⟩,let ⟨mc,h1,h2⟩:=hlim; ⟨mc,nsK h1,h2⟩⟩
  have e0:Env0 P w K mg (hidT s₁.heap H) callerA [] s₁ H:=⟨rfl,hM,fun b o e=>QhK e,Nat.le_of_eq (QeQ _ _),trivial,fun b hb=>absurd (show b∈([]:List Addr) from hb) (by simp),hok,.of_eq hg⟩
  refine codeAny_mono ((F _ hKb (nsK hns)).run callerA [] s₁ H ⟨[.ref a],[]⟩ [.ref a] [.ref a] _ _ hr e0 (hbind s₁ (.ref a)) (.cons rfl .nil) (hsp H hO hS)) fun r s' h=>?_
  cases r with
  | error e=>exact(hCX H e s' h).elim
  | ok fl =>
   cases fl with
   | next=>exact False.elim h
   | brk=>exact False.elim h
   | cont=>exact False.elim h
   | ret u =>
    obtain⟨v,H',os,bare,un,hok',r',q⟩:=h
    have q':v=.bl true:=q
    subst q'
    obtain rfl:u=Value.bool true:=r'
    refine⟨rfl,OldK.of_keep fun b o e=>?_,os,bare⟩
    cases q:H b with
    | none=>exact un.keep b o e q (by intro z; exact absurd (show b∈([]:List Addr) from z) (by simp)) (by simp)
    | some u =>
     rcases hO b with z | ⟨ob,xs,z⟩
     ·rw [q] at z; cases z
     ·have z2:=un.frzs b ob _ z
      obtain⟨e1,_⟩:=hok b _ z
      obtain⟨e2,_⟩:=hok' b _ z2
      rw [e] at e1; cases e1
      exact e2
 cases hk:K.lookup a with
 | some o =>
  -- the script is one of the module's own objects
  have e:=KX a o hk
  rw [ha] at e
  cases e
  refine core (fun _=>none) (fun _=>.inl rfl) (.inr ⟨_,vs.toArray,_,hk,rfl,rfl,rfl,by rw [List.size_toArray,lenV]; exact hl,by simpa using rv⟩) (fun b u z=>by have z':(none:Option HO)=some u:=z; cases z') (fun b z=>absurd rfl z) fun z=>absurd rfl z
 | none =>
  refine core (fun b=>if b=a then some (.frz { cls:=.type "list",data:=.seq vs.toArray } (.lst (ns.map V.int))) else none) (fun b=>?_) (.inl (.inr ⟨{ cls:=.type "list",data:=.seq vs.toArray },if_pos rfl⟩)) (fun b u z=>?_) (fun b z=>?_) fun _=>hk
  ·by_cases hb:b=a
   ·exact .inr ⟨_,_,if_pos hb⟩
   ·exact .inl (if_neg hb)
  ·by_cases hb:b=a
   ·have z':=(if_pos hb).symm.trans z
    cases z'
    subst hb
    exact⟨ha,by rw [List.length_map]; exact hl,vs,_,rv,ha⟩
   ·have z':=(if_neg hb).symm.trans z
    cases z'
  ·by_cases hb:b=a
   ·exact hb
   ·exact absurd (if_neg hb) z
end L2
namespace L2
open PySem PySem.Spec PyProof.Rows
theorem walk_of {l:PySem.W.OpenLaw} {n k:Nat} {q:Program} {loose:List Str} {XP:(Str->Option Value)->Heap->Prop} {YP:World->Heap->Prop} {d:DefRec} {K:Params->PySem.W.Frag} {CX:World->CXT} {sp:World->Sp} {x:Str}
  (hn:l.most=some n) (hn2:n≤sizeLine) (hdf:d.params.defaults=[]) (hr:Room k callerA)
  (hY:∀(w:World) (h:Heap),YP w h->(K w.params).In h)
  (F:∀(w:World) (mg:Str->Option Value) (fa:Addr) (h:Heap),(K w.params).In h->h.Ns mainGlobals mg->mg d.name=some (.ref fa) ->
   ∃ fd:FuncData,(∀(s:Shared) (u:Value),BindsTo s fd ⟨[u],[]⟩ [(x,u)]) ∧
    ∀ base:Heap,(K w.params).In base->base.Ns mainGlobals mg->FnOk l.prog w (K w.params) mg base (CX w) k fa fd [x] (sp w))
  (hsp:∀(w:World) (H:Hp) (a:Addr) (ns:List Int),ns.length≤n->Only H->SqL (K w.params) H a (ns.map V.int)->sp w [.ref a] H (fun v _=>v=.bl true) fun _ _ _=>False)
  (hCX:∀(w:World) (H:Hp) (s:Shared) (e:Value) (s':Shared),CX w [] H s (fun _ _ _=>False) e s'->False) :
  PySem.W.WalkO q loose XP YP l.row.toRowW d [] (fun f vs=>PySem.call f vs):=by
 refine Att.attach_call hn hdf fun w s₀ s₁ mg mb fa o pm cd doc a vs ns G Y ho hd hcd hmg hobj hints hlen hg=>?_
 have KX:=hY w _ Y
 obtain⟨fd,hb,hF⟩:=F w mg fa _ KX G.T.g hmg
 exact Qgv KX G.T.g G.T.b G.T.builtins G.T.nolimit hg hobj hints (Nat.le_trans hlen hn2) hr hF hb (fun H hO hS=>hsp w H a ns hlen hO hS) fun H e s'=>hCX w H s₁ e s'
end L2
namespace L2
open PySem PySem.Spec PyProof.Rows
noncomputable def QB (s:Stmt):Arguments:=match s with
 | .FunctionDef _ a _ _ _ _ _ _ _ _=>a
 | _=>{ posonlyargs:=[],args:=[],vararg:=none,kwonlyargs:=[],kw_defaults:=[],kwarg:=none,defaults:=[] }
noncomputable def QA (s:Stmt):List Stmt:=match s with
 | .FunctionDef _ _ b _ _ _ _ _ _ _=>b
 | _=>[]
noncomputable def Qe (s:Stmt):Scope:=match s with
 | .FunctionDef _ _ _ _ _ _ sc _ _ _=>sc
 | _=>{ kind:=.function,names:=[],isGenerator:=false,isCoroutine:=false }
noncomputable abbrev CX0:CXT:=fun _ _ _ _ _ _=>False
structure Fun (K:PySem.W.Frag) (x qual:Str) (st:Stmt) (f:Addr) (fd:FuncData):Prop where
 ex:∃(oc:Value) (od:Option Addr) (kV doc pm:Value) (an:Option Addr) (cdv ct:Value) (osl:Array (Option Value)),
  fd=PySem.W.fnOf x qual (QB st) (QA st) (Qe st) .none kV doc pm an cdv ct∧K.lookup f=some ⟨oc,od,.func fd,osl⟩∧PySem.W.codeIn K cdv qual=true
 kp:PySem.W.keepIn K (.ref f)=true
section
variable {P:Program} {w:World} {K:PySem.W.Frag} {mg:Str->Option Value} {base:Heap}
theorem Fun.ok {x qual:Str} {st:Stmt} {f:Addr} {fd:FuncData} {N ps:List Str} {k:Nat} {sp:Sp} (F:Fun K x qual st f fd) (S:FnScope N ps (Qe st)) (len:∀ vs H Q E,sp vs H Q E->vs.length=ps.length)
  (hbody:∀(cdv:Value) (A:Around) (outer:List Env) (s:Shared) (H:Hp) (vs:List V) (Q:VK) (E:XK),Room k (A.deeper (envOfC qual (Qe st) s.heap.objs.size f cdv))->sp vs H Q E ->
   ∃ t,PSs (cxOf CX0 P w K mg base N qual (Qe st) f cdv A outer s H E).nox (QA st) t∧t { nx:=fun _ H'=>Q .non H',rt:=Q } (start N vs) H):FnOk P w K mg base CX0 (k+1) f fd ps sp:=by
 obtain⟨oc,od,kV,doc,pm,an,cdv,ct,osl,rfl,lk,hcd⟩:=F.ex
 refine Qjr lk hcd S len fun A outer s H vs Q E hr hsp=>?_
 obtain⟨t,h,q⟩:=hbody cdv A outer s H vs Q E hr hsp
 exact⟨t,h.nox,q⟩
theorem Fun.binds {x qual:Str} {st:Stmt} {f:Addr} {fd:FuncData} {ps:List Str} (F:Fun K x qual st f fd)
  (h:∀(kV doc pm:Value) (an:Option Addr) (cdv ct:Value) (us:List Value),us.length=ps.length->bindArgs (PySem.W.fnOf x qual (QB st) (QA st) (Qe st) .none kV doc pm an cdv ct) ⟨us,[]⟩=pure (ps.zip us)):Binds K fd ps []:=by
 obtain⟨oc,od,kV,doc,pm,an,cdv,ct,osl,rfl,lk,hcd⟩:=F.ex
 exact .all (h kV doc pm an cdv ct)
theorem Q2 {x qual:Str} {st:Stmt} {f:Addr} {oc:Value} {od an:Option Addr} {osl:Array (Option Value)} {kV doc pm cdv ct:Value} (l:K.lookup f=some ⟨oc,od,.func (PySem.W.fnOf x qual (QB st) (QA st) (Qe st) .none kV doc pm an cdv ct),osl⟩)
  (c:PySem.W.codeIn K cdv qual=true) (k:PySem.W.keepIn K (.ref f)=true):Fun K x qual st f (PySem.W.fnOf x qual (QB st) (QA st) (Qe st) .none kV doc pm an cdv ct):=⟨⟨oc,od,kV,doc,pm,an,cdv,ct,osl,rfl,l,c⟩,k⟩
end
section
variable {X:Cx}
end
noncomputable def Same (H H':Hp):Prop:=∀ b o,H b=some o->H' b=some o
theorem Same.refl (H:Hp):Same H H:=fun _ _ h=>h
theorem Same.trans {H H1 H2:Hp} (a:Same H H1) (b:Same H1 H2):Same H H2:=fun c o h=>b c o (a c o h)
theorem Same.free {H H':Hp} (e:Same H H') {l:Addr} (h:H' l=Option.none):H l=Option.none:=by
 cases q:H l with
 | none=>rfl
 | some o =>
  rw [e l o q] at h
  cases h
theorem Same.seq {K:PySem.W.Frag} {H H':Hp} {a:Addr} {xs:List V} (e:Same H H') (h:SqL K H a xs):SqL K H' a xs:=by
 rcases h with(h | ⟨o,h⟩) | h
 ·exact .inl (.inl (e _ _ h))
 ·exact .inl (.inr ⟨o,e _ _ h⟩)
 ·exact .inr h
end L2
set_option maxHeartbeats 4000000
section
namespace HT
open PySem PySem.Spec PyProof.Rows
set_option maxRecDepth 100000
theorem J9:fillsNumberSlot (.type "tuple") "mul" = pure false :=
 PySem.fillsNumberSlot_seq (id:="tuple.__mul__") (r:=some (.builtin "tuple.__rmul__")) F.slot_tuple_mul.lookup (by decide +kernel) F.slot_tuple_rmul.lookup (by decide +kernel)
theorem Qcw:seqRepeat? (.type "tuple")=pure (some (.builtin "tuple.__mul__")):=by
 unfold seqRepeat?
 rw [PySem.seqSlot_of (T:="tuple") (name:="__mul__") (id:="tuple.__mul__") F.slot_tuple_mul.lookup (by decide +kernel),PySem.seqSlot_of (T:="tuple") (name:="__rmul__") (id:="tuple.__rmul__") F.slot_tuple_rmul.lookup (by decide +kernel)]
 rfl
theorem Qbb (a:Int) (t:Tok) (l:Addr) (items:Array Value) (n:Nat) (dd:Option Addr) (sl) :
  Meets (Builtin.«int.__rmul__» ⟨[.int a t,.ref l],[]⟩) (fun _ R s=>s.heap.get? l=some { cls:=.type "tuple",dict:=dd,data:=.seq items n,slots:=sl }∧R (.ok (.ret Value.notImplemented)) s) :=
 .of_wp fun prog w A R s h=>by obtain⟨hp,g,d,tk,os⟩:=s; obtain⟨hl,h⟩:=h; wp_walk; exact⟨_,rfl,h⟩
theorem Qek (l:Addr) (items:Array Value) (n:Nat) (dd:Option Addr) (sl) (k:Int) (t:Tok) (hi:¬ items.isEmpty=true) (h1:¬ (k == 1)=true) (h0:0<k) (hk:k<2 ^ 63) (hz:items.size*k.toNat≤sizeLine) :
  Meets (Builtin.«tuple.__mul__» ⟨[.ref l,.int k t],[]⟩) (fun _ R s=>s.heap.get? l=some { cls:=.type "tuple",dict:=dd,data:=.seq items n,slots:=sl }∧R (.ok (.ret (Value.ref s.heap.objs.size))) { s with heap:=s.heap.push { cls:=Value.type "tuple",data:=Data.seq (List.foldl (fun x1 x2=>x1++x2) #[] (List.replicate k.toNat items)) },toks:=s.toks }) :=
 .of_wp fun prog w A R s h=>by
  obtain⟨hp,g,d,tk,os⟩:=s; obtain⟨hl,h⟩:=h
  have f1:=AutoSeq1.idx_int
  have hz':(items.size:Int)*k≤(sizeLine:Int):=by
   have e:((items.size*k.toNat:Nat):Int)=(items.size:Int)*k:=by rw [Int.natCast_mul,Int.toNat_of_nonneg (by omega)]
   omega
  have hl':((sizeLine:Nat):Int)≤(2 ^ 63 - 1) / 8:=by decide
  have hi':items.isEmpty=false:=by cases h:items.isEmpty <;> simp_all
  have h1':(k == 1)=false:=by cases h:(k == 1) <;> simp_all
  have hc0:¬ (decide (k < -2 ^ 63) || decide (k≥2 ^ 63))=true:=by rw [decide_eq_false (p:=k < -2 ^ 63) (by omega),decide_eq_false (p:=k≥2 ^ 63) (by omega)]; exact Bool.false_ne_true
  have hc1:¬ (items.isEmpty || k == 1)=true:=by rw [hi',h1']; exact Bool.false_ne_true
  have hc2:¬ (decide (k≤0) || items.isEmpty)=true:=by rw [hi',decide_eq_false (p:=k≤0) (by omega)]; exact Bool.false_ne_true
  have hc3:¬ (items.size:Int)*k > (2 ^ 63 - 1) / 8:=by omega
  have hc4:¬ Builtin.Tuple.tupleTooMany (items.size*k)=true:=by unfold Builtin.Tuple.tupleTooMany; rw [decide_eq_false (p:=(items.size:Int)*k > (sizeLine:Int)) (by omega)]; exact Bool.false_ne_true
  have hsz:(List.foldl (fun x1 x2=>x1++x2) #[] (List.replicate k.toNat items)).size≤sizeLine:=by
   have e:∀(m:Nat) (a:Array Value),(List.foldl (fun x1 x2=>x1++x2) a (List.replicate m items)).size=a.size+items.size*m:=fun m=>by
    induction m with
    | zero=>intro a; simp
    | succ m ih=>intro a; rw [List.replicate_succ,List.foldl_cons,ih,Array.size_append,Nat.mul_succ]; omega
   rw [e]; simp; exact hz
  wp_walk
  refine wpAny_ite_false (decide_eq_false hc0) ?_
  wp_walk using wpAny_loadPart' hl
  refine wpAny_ite_false (decide_eq_false hc3) ?_
  wp_walk
  exact⟨_,rfl,h⟩
theorem Qel (l:Addr) (items:Array Value) (n:Nat) (dd:Option Addr) (sl) (k:Int) (t:Tok) (h1:(items.isEmpty || k == 1)=true) (h0:0≤k) (hk:k<2 ^ 63) :
  Meets (Builtin.«tuple.__mul__» ⟨[.ref l,.int k t],[]⟩) (fun _ R s=>s.heap.get? l=some { cls:=.type "tuple",dict:=dd,data:=.seq items n,slots:=sl }∧R (.ok (.ret (Value.ref l))) { s with heap:=s.heap,toks:=s.toks }) :=
 .of_wp fun prog w A R s h=>by
  obtain⟨hp,g,d,tk,os⟩:=s; obtain⟨hl,h⟩:=h
  have f1:=AutoSeq1.idx_int
  have hc0:¬ (decide (k < -2 ^ 63) || decide (k≥2 ^ 63))=true:=by rw [decide_eq_false (p:=k < -2 ^ 63) (by omega),decide_eq_false (p:=k≥2 ^ 63) (by omega)]; exact Bool.false_ne_true
  wp_walk
  refine wpAny_ite_false (decide_eq_false hc0) ?_
  wp_walk using wpAny_loadPart' hl
  exact⟨_,rfl,h⟩
theorem Qem (l:Addr) (items:Array Value) (n:Nat) (dd:Option Addr) (sl) (t:Tok) (hi:¬ items.isEmpty=true) :
  Meets (Builtin.«tuple.__mul__» ⟨[.ref l,.int 0 t],[]⟩) (fun _ R s=>s.heap.get? l=some { cls:=.type "tuple",dict:=dd,data:=.seq items n,slots:=sl }∧R (.ok (.ret (Value.ref s.heap.objs.size))) { s with heap:=s.heap.push { cls:=Value.type "tuple",data:=Data.seq #[] },toks:=s.toks }) :=
 .of_wp fun prog w A R s h=>by
  obtain⟨hp,g,d,tk,os⟩:=s; obtain⟨hl,h⟩:=h
  have f1:=AutoSeq1.idx_int
  have hi':items.isEmpty=false:=by cases h:items.isEmpty <;> simp_all
  have hc1:¬ (items.isEmpty || (0:Int) == 1)=true:=by rw [hi']; exact Bool.false_ne_true
  wp_walk using wpAny_loadPart' hl
  exact⟨_,rfl,h⟩
section
variable {prog:Program} {w:World} {A:Around} {E:Value->Shared->Prop} {s:Shared}
theorem rep_tup {l:Addr} {its:List Value} {k:Int} {t:Tok} {Q:Value->Shared->Prop} (ht:IsTup s.heap l its.toArray) (h0:0≤k) (hk:k<2 ^ 63) (hz:its.length*k.toNat≤sizeLine)
  (h1:its=[]∨k=1->Q (.ref l) s) (h2:its≠[]->k≠1->Q (.ref s.heap.objs.size) { s with heap:=s.heap.push { cls:=.type "tuple",data:=.seq (List.replicate k.toNat its).flatten.toArray } }):wpAny (model prog w) A (binaryOp .Mult (.ref l) (.int k t)) Q E s:=by
 obtain⟨⟨cls,dd,data,sl⟩,ho,hc,n,hd⟩:=id ht
 simp only at hc hd
 subst hc hd
 refine wpAny_binaryOp_repeat_ref (T:="tuple") (U:="int") (by decide) ⟨_,ho,rfl⟩ (fun s'=>typeIs_int s' k t) J9 F.fills_int_mul F.slot_int_rmul Qcw F.slot_int_index.lookup
  (call_meets F.slot_int_rmul (typeIs_int s k t) F.entry_int_rmul (F.args_int_rmul_2 _ _) (Qbb k t l its.toArray n dd sl) ⟨ho,rfl,⟨_,ho,rfl⟩,?_⟩)
 by_cases hc:its=[]∨k=1
 ·refine call_meets F.slot_tuple_mul ⟨_,ho,rfl⟩ F.entry_tuple_mul (F.args_tuple_mul_2 _ _) (Qel l its.toArray n dd sl k t ?_ h0 hk) ⟨ho,h1 hc⟩
  rcases hc with rfl | rfl
  ·rfl
  ·simp
 ·have hi:its≠[]:=fun z=>hc (.inl z)
  have h3:k≠1:=fun z=>hc (.inr z)
  have hia:¬ its.toArray.isEmpty=true:=by simpa using hi
  have f0:∀ m:Nat,List.foldl (fun x1 x2=>x1++x2) #[] (List.replicate m its.toArray)=(List.replicate m its).flatten.toArray:=fun m=>by
   have:=L2.foldl_rep its m []
   rw [List.nil_append] at this
   exact this
  by_cases hk0:k=0
  ·subst hk0
   exact call_meets F.slot_tuple_mul ⟨_,ho,rfl⟩ F.entry_tuple_mul (F.args_tuple_mul_2 _ _) (Qem l its.toArray n dd sl t hia) ⟨ho,h2 hi h3⟩
  ·refine call_meets F.slot_tuple_mul ⟨_,ho,rfl⟩ F.entry_tuple_mul (F.args_tuple_mul_2 _ _) (Qek l its.toArray n dd sl k t hia (by simpa using h3) (by omega) hk (by rw [List.size_toArray]; exact hz)) ⟨ho,?_⟩
   rw [f0]
   exact h2 hi h3
end
end HT
namespace L2
open PySem PySem.Spec PyProof.Rows
section
variable {X:Cx}
noncomputable def QjB (K:PySem.W.Frag):R2:=fun x y H Q=>∃ a k xs,x=.ref a∧y=.int k∧SqT K H a xs∧0≤k∧k<2 ^ 63∧xs.length*k.toNat≤sizeLine ∧
 (xs=[]∨k=1->Q (.ref a) H)∧(xs≠[]->k≠1->∀ p,H p=none->Q (.ref p) (upd H p (.tup (List.replicate k.toNat xs).flatten)))
theorem Qh3:OpR X (binaryOp .Mult) (QjB X.K):=by
 intro pins s σ H x y v u Q I rx ry h
 obtain⟨a,k,xs,rfl,rfl,ha,h0,hk,hz,q1,q2⟩:=h
 cases rx
 obtain⟨t,rfl⟩:=ry
 obtain⟨its,r1,p1,_⟩:=I.tuple ha
 refine HT.rep_tup p1 h0 hk (by rw [← r1.length]; exact hz) (fun z=>⟨.ref a,H,I,rfl,q1 (z.imp r1.nil_iff.mp id)⟩) (fun z z2=>?_)
 refine⟨.ref s.heap.objs.size,_,I.laid (t':=s.toks) (o:=.tup (List.replicate k.toNat xs).flatten) (fun b ob q=>Heap.get?_push_of_some _ q) (Nat.le_refl _) ?_,rfl,q2 (fun w=>z (r1.nil_iff.mpr w)) z2 _ (I.hok.fresh (Nat.le_refl _))⟩
 exact⟨by rw [Qh2,Nat.mul_comm]; exact hz,_,r1.rep k.toNat,IsTup.new _ _⟩
end
end L2
end
section
namespace HT
open PySem PySem.Spec PyProof.Rows
set_option maxRecDepth 100000
theorem list_extendT (l:Addr) (items:Array Value) (n:Nat) (b:Addr) (items2:Array Value) (n2:Nat) (dd:Option Addr) (sl) (hs0:¬(!items.isEmpty && Builtin.List.listTooLong (items.size+items2.size))=true) (hs1:items.size≤sizeLine) (hs2:items.size+items2.size≤sizeLine+1) :
  Meets (Builtin.«list.extend» ⟨[.ref l,.ref b],[]⟩) (fun _ R s=>s.heap.get? l=some { cls:=.type "list",dict:=none,data:=.seq items n,slots:=#[] }∧s.heap.get? b=some { cls:=.type "tuple",dict:=dd,data:=.seq items2 n2,slots:=sl }∧R (.ok (.ret Value.none)) { s with heap:=s.heap.update l (Obj.mapSeq fun x=>x++items2),toks:=s.toks }) :=
 .of_wp fun prog w A R s h=>by
  obtain⟨hp,g,d,tk,os⟩:=s; obtain⟨hl,hb,h⟩:=h; have f1:=AutoSeq1.idx_int; have f2:=AutoSeq1.sub_tuple_tuple; have f3:=AutoSeq1.sub_list_list; have f4:=AutoSeq1.sub_tuple_list; have f5:=AutoSeq1.sub_list_tuple;
  have hz':(items++items2).size≤sizeLine+1:=by rw [Array.size_append]; exact hs2
  wp_walk using (wpAny_updateSeq hl rfl (hz:=hs1) (_hz':=hz')),wpAny_loadPart' hl,wpAny_loadPart' hb
  exact⟨_,rfl,h⟩
end HT
namespace L2
open PySem PySem.Spec PyProof.Rows
section
variable {X:Cx}
noncomputable def QdC (K:PySem.W.Frag):V->List V->Hp->VK->Prop:=fun x vs H Q=>∃ l b xs zs,x=.ref l∧vs=[.ref b]∧H l=some (.lst xs)∧SqT K H b zs∧xs.length+zs.length≤sizeLine∧Q .non (upd H l (.lst (xs++zs)))
theorem Qen:MtM X "list.extend" (QdC X.K):=by
 intro pins s σ H x vs v us Q I rx rv h
 obtain⟨l,b,xs,zs,rfl,rfl,hH,hB,hz,q⟩:=h
 cases rx
 obtain⟨u,rfl,ru⟩:=rv.one
 cases ru
 obtain⟨z,its,n,r,hl,e⟩:=I.lstM hH
 obtain⟨its2,r2,p2,_⟩:=I.tuple hB
 obtain⟨⟨cls,dd,data,sl⟩,ho,hc,n2,hd⟩:=id p2
 simp only at hc hd
 subst hc hd
 have hl2:=r2.length
 have hsz:its.toArray.size+its2.toArray.size≤sizeLine:=by rw [List.size_toArray,List.size_toArray]; omega
 have hlong:¬ (!its.toArray.isEmpty && Builtin.List.listTooLong (its.toArray.size+its2.toArray.size))=true:=by
  rw [QdB hsz,Bool.and_false]
  exact Bool.false_ne_true
 refine call_meets F.slot_list_extend ⟨_,e,rfl⟩ F.entry_list_extend (F.args_list_extend_2 _ _)
  (HT.list_extendT l its.toArray n b its2.toArray n2 dd sl hlong (by rw [List.size_toArray]; omega) (by omega)) ⟨e,ho,?_⟩
 refine⟨.non,_,I.lset (its':=its++its2) hH e (by simp) (r.append r2) ?_,rfl,q⟩
 rw [List.length_append]
 omega
theorem Qeo:MtM X "list.extend" (fun x vs H Q=>Qe6 x vs H Q∨QdC X.K x vs H Q):=by
 intro pins s σ H x vs v us Q I rx rv h
 rcases h with h | h
 ·exact Qe7 pins s σ H x vs v us Q I rx rv h
 ·exact Qen pins s σ H x vs v us Q I rx rv h
end
end L2
end
section
namespace L3
open PySem
noncomputable abbrev Xc:=Nat×Option Nat
inductive D where
 | non | bl (b:Bool) | int (i:Int) | str (s:Str) | ref (n:Nat) | tup (ds:List D) | fl (ds:List D)
inductive GO where
 | lst (ds:List D) | ins (c:Nat) (fs:List (Str×D)) | dct (kvs:List (Sum Int Str×D)) | exc (x:Xc)
noncomputable abbrev G:=List GO
noncomputable abbrev S3:=List (Option D)
inductive Res (α:Type) where
 | ok (a:α) (g:G) | raise (x:Xc) (g:G) | stuck
noncomputable def Res.bind {α β:Type}:Res α->(α->G->Res β)->Res β
 | .ok a g,k=>k a g
 | .raise e g,_=>.raise e g
 | .stuck,_=>.stuck
inductive Out where
 | nx (σ:S3) (g:G) | rt (d:D) (g:G) | bk (σ:S3) (g:G) | ct (σ:S3) (g:G) | raise (x:Xc) (σ:S3) (g:G) | stuck
noncomputable abbrev ME:=S3->G->Res D
noncomputable abbrev MT:=S3->G->Res Bool
noncomputable abbrev MA:=S3->G->Res (List D)
noncomputable abbrev MS:=S3->G->Out
noncomputable abbrev MF:=List D->G->Res D
theorem Res.bind_ok {α β:Type} (a:α) (g:G) (k:α->G->Res β):(Res.ok a g).bind k=k a g:=rfl
noncomputable def SZ:Nat:=1000000
noncomputable def mVar (i:Nat):ME:=fun σ g=>match σ[i]? with
 | some (some d)=>.ok d g
 | _=>.stuck
noncomputable def mLit (d:D):ME:=fun _ g=>.ok d g
noncomputable def mOp1 (f:D->G->Res D) (a:ME):ME:=fun σ g=>(a σ g).bind f
noncomputable def mOp2 (f:D->D->G->Res D) (a b:ME):ME:=fun σ g=>(a σ g).bind fun x g1=>(b σ g1).bind fun y g2=>f x y g2
noncomputable def mNil:MA:=fun _ g=>.ok [] g
noncomputable def Qa (a:ME) (r:MA):MA:=fun σ g=>(a σ g).bind fun x g1=>(r σ g1).bind fun xs g2=>.ok (x::xs) g2
noncomputable def mOpA (f:List D->G->Res D) (a:MA):ME:=fun σ g=>(a σ g).bind f
noncomputable def Qp (a:ME):MT:=fun σ g=>(a σ g).bind fun d g1=>match d with
 | .bl b=>.ok b g1
 | _=>.stuck
noncomputable def ZG (a:MT):MT:=fun σ g=>(a σ g).bind fun b g1=>.ok (!b) g1
noncomputable def Qfa (a b:MT):MT:=fun σ g=>(a σ g).bind fun c g1=>if c=true then b σ g1 else .ok false g1
noncomputable def mOrT (a b:MT):MT:=fun σ g=>(a σ g).bind fun c g1=>if c=true then .ok true g1 else b σ g1
noncomputable def mNot (a:ME):ME:=fun σ g=>(a σ g).bind fun d g1=>match d with
 | .bl b=>.ok (.bl (!b)) g1
 | _=>.stuck
noncomputable def mAnd (a b:ME):ME:=fun σ g=>(a σ g).bind fun d g1=>match d with
 | .bl c=>if c=true then b σ g1 else .ok (.bl false) g1
 | _=>.stuck
noncomputable def mIfE (c:MT) (a b:ME):ME:=fun σ g=>(c σ g).bind fun t g1=>if t=true then a σ g1 else b σ g1
noncomputable def Q9:MS:=fun σ g=>.nx σ g
noncomputable def mSeq (a b:MS):MS:=fun σ g=>match a σ g with
 | .nx σ' g'=>b σ' g'
 | o=>o
noncomputable def Zw (a:ME):MS:=fun σ g=>match a σ g with
 | .ok _ g'=>.nx σ g'
 | .raise e g'=>.raise e σ g'
 | .stuck=>.stuck
noncomputable def mRet (a:ME):MS:=fun σ g=>match a σ g with
 | .ok d g'=>.rt d g'
 | .raise e g'=>.raise e σ g'
 | .stuck=>.stuck
noncomputable def mIf (c:MT) (a b:MS):MS:=fun σ g=>match c σ g with
 | .ok t g'=>if t=true then a σ g' else b σ g'
 | .raise e g'=>.raise e σ g'
 | .stuck=>.stuck
noncomputable def Qaz (c:Nat) (a:MA):MS:=fun σ g=>match a σ g with
 | .ok ds g'=>if ds.length≤SZ then .raise (c,none) σ g' else .stuck
 | .raise e g'=>.raise e σ g'
 | .stuck=>.stuck
structure MH where
 cs:List Nat
 no:List Nat
 nm:Option Nat
 suite:MS
noncomputable def QjC (i:Nat):Out->Out
 | .nx σ g=>.nx (σ.set i none) g
 | .rt d g=>.rt d g
 | _=>.stuck
noncomputable def runH:List MH->Xc->S3->G->Out
 | [],x,σ,g=>.raise x σ g
 | h::r,x,σ,g=>if x.1∈h.cs then (match h.nm with
  | none=>(match h.suite σ g with
   | .nx σ' g'=>.nx σ' g'
   | .rt d g'=>.rt d g'
   | _=>.stuck)
  | some i=>QjC i (h.suite (σ.set i (some (.ref g.length))) (g++[.exc x]))) else if x.1∈h.no then runH r x σ g else .stuck
noncomputable def mTry (b:MS) (hs:List MH):MS:=fun σ g=>match b σ g with
 | .raise x σ' g'=>runH hs x σ' g'
 | o=>o
noncomputable abbrev MG:=D->S3->Option S3
noncomputable def gSet (i:Nat):MG:=fun d σ=>some (σ.set i (some d))
noncomputable def Qep:List MG->List D->S3->Option S3
 | [],[],σ=>some σ
 | t::ts,d::ds,σ=>(t d σ).bind fun σ'=>Qep ts ds σ'
 | _,_,_=>none
noncomputable def JJ (ts:List MG):MG:=fun d σ=>match d with
 | .tup ds=>Qep ts ds σ
 | _=>none
noncomputable def mAsg (t:MG) (a:ME):MS:=fun σ g=>match a σ g with
 | .ok d g'=>(match t d σ with
  | some σ'=>.nx σ' g'
  | none=>.stuck)
 | .raise e g'=>.raise e σ g'
 | .stuck=>.stuck
structure Src where
 at':G->Nat->Option (Option D)
 top:Nat
noncomputable abbrev MI:=S3->G->Res Src
noncomputable def forL (src:Src) (t:MG) (body:MS):Nat->Nat->S3->G->Out
 | 0,_,_,_=>.stuck
 | f+1,i,σ,g=>match src.at' g i with
  | some (some d)=>(match t d σ with
   | some σ1=>(match body σ1 g with
    | .nx σ2 g2=>forL src t body f (i+1) σ2 g2
    | .ct σ2 g2=>forL src t body f (i+1) σ2 g2
    | .bk σ2 g2=>.nx σ2 g2
    | o=>o)
   | none=>.stuck)
  | some none=>.nx σ g
  | none=>.stuck
noncomputable def mFor (it:MI) (t:MG) (body:MS):MS:=fun σ g=>match it σ g with
 | .ok src g'=>forL src t body (src.top+1) 0 σ g'
 | .raise e g'=>.raise e σ g'
 | .stuck=>.stuck
noncomputable def Zy (c:MT) (body:MS):Nat->S3->G->Out
 | 0,_,_=>.stuck
 | f+1,σ,g=>match c σ g with
  | .ok true g1=>(match body σ g1 with
   | .nx σ2 g2=>Zy c body f σ2 g2
   | .ct σ2 g2=>Zy c body f σ2 g2
   | .bk σ2 g2=>.nx σ2 g2
   | o=>o)
  | .ok false g1=>.nx σ g1
  | .raise e g1=>.raise e σ g1
  | .stuck=>.stuck
open Classical in
noncomputable def Qcx (c:MT) (body:MS):MS:=fun σ g=>if h:∃ f,Zy c body f σ g≠.stuck then Zy c body h.choose σ g else .stuck
noncomputable def YK (src:Src) (t:MG) (c:MT) (e:ME):Nat->Nat->S3->G->List D->Res (List D)
 | 0,_,_,_,_=>.stuck
 | f+1,i,σ,g,acc=>match src.at' g i with
  | some (some d)=>(match t d σ with
   | some σ1=>(match c σ1 g with
    | .ok b g1=>if b=true then (match e σ1 g1 with
     | .ok y g2=>YK src t c e f (i+1) σ1 g2 (acc++[y])
     | _=>.stuck) else YK src t c e f (i+1) σ1 g1 acc
    | _=>.stuck)
   | none=>.stuck)
  | some none=>.ok acc g
  | none=>.stuck
noncomputable def capt (n:Nat) (cap:List Nat) (σ:S3):S3:=List.replicate n none++cap.map fun i=>(σ[i]?).getD none
noncomputable def newL (ds:List D) (g:G):Res D:=if ds.length≤SZ then .ok (.ref g.length) (g++[.lst ds]) else .stuck
noncomputable def pTup (xs:List D) (g:G):Res D:=if xs.length≤SZ then .ok (.tup xs) g else .stuck
noncomputable def Ya (it:MI) (n:Nat) (cap:List Nat) (t:MG) (c:MT) (e:ME):ME:=fun σ g=>match it σ g with
 | .ok src g1=>if src.top≤SZ then (match YK src t c e (src.top+1) 0 (capt n cap σ) g1 [] with
  | .ok ds g2=>.ok (.ref g2.length) (g2++[.lst ds])
  | _=>.stuck) else .stuck
 | _=>.stuck
noncomputable def Yj:MT:=fun _ g=>.ok true g
noncomputable def mDef (k n:Nat) (body:MS):MF:=fun ds g=>if ds.length=k then (match body (ds.map some++List.replicate n none) g with
 | .nx _ g'=>.ok .non g'
 | .rt d g'=>.ok d g'
 | .raise e _ g'=>.raise e g'
 | _=>.stuck) else .stuck
noncomputable def Qs (f:MF) (a:MA):ME:=fun σ g=>(a σ g).bind f
noncomputable def putG (f:Str) (v:D):List (Str×D)->List (Str×D)
 | []=>[(f,v)]
 | (g,x)::r=>if g=f then (g,v)::r else (g,x)::putG f v r
noncomputable def ixD (n:Nat) (i:Int):Option Nat:=if 0≤i then (if i<n then some i.toNat else none) else if -(n:Int)≤i then some (i+n).toNat else none
noncomputable def Qcy (o i v:ME):MS:=fun σ g=>match v σ g with
 | .ok y g1=>(match o σ g1 with
  | .ok (.ref n) g2=>(match i σ g2 with
   | .ok (.int k) g3=>(match g3[n]? with
    | some (.lst ds)=>(match ixD ds.length k with
     | some j=>.nx σ (g3.set n (.lst (ds.set j y)))
     | none=>.stuck)
    | _=>.stuck)
   | .raise e g'=>.raise e σ g'
   | _=>.stuck)
  | .raise e g'=>.raise e σ g'
  | _=>.stuck)
 | .raise e g'=>.raise e σ g'
 | .stuck=>.stuck
noncomputable def Qcz (d:D) (g:G):Res Src:=match d with
 | .tup ds=>.ok ⟨fun _ i=>some ds[i]?,ds.length⟩ g
 | .fl ds=>.ok ⟨fun _ i=>some ds[i]?,ds.length⟩ g
 | .ref n=>(match g[n]? with
  | some (.lst ds)=>.ok ⟨fun g i=>(match g[n]? with | some (.lst es)=>some es[i]? | _=>none),ds.length⟩ g
  | _=>.stuck)
 | _=>.stuck
noncomputable def QW (a:ME):MI:=fun σ g=>(a σ g).bind Qcz
noncomputable def Zg (lo:Int) (n:Nat):Src:=⟨fun _ i=>some (if i<n then some (.int (lo+i)) else none),n⟩
noncomputable def inR (j:Int):Prop:=-(2 ^ 62)≤j∧j<2 ^ 62
noncomputable instance (j:Int):Decidable (inR j):=inferInstanceAs (Decidable (_∧_))
noncomputable def Zz (a:ME):MI:=fun σ g=>(a σ g).bind fun d g1=>match d with
 | .int j=>if inR j then .ok (Zg 0 j.toNat) g1 else .stuck
 | _=>.stuck
noncomputable def Qr (g:G):D->Option (Bool×List D)
 | .tup ds=>some (false,ds)
 | .fl ds=>some (true,ds)
 | .ref n=>(match g[n]? with
  | some (.lst ds)=>some (true,ds)
  | _=>none)
 | _=>none
noncomputable def QdD (d1 d2:D) (g:G):Res Src:=match Qr g d1,Qr g d2 with
 | some (_,xs),some (_,ys)=>.ok ⟨fun g i=>(match Qr g d1,Qr g d2 with
  | some (_,xs),some (_,ys)=>(match xs[i]?,ys[i]? with
   | some x,some y=>some (some (.tup [x,y]))
   | _,_=>some none)
  | _,_=>none),min xs.length ys.length⟩ g
 | _,_=>.stuck
noncomputable def QcA (a b:ME):MI:=fun σ g=>(a σ g).bind fun x g1=>(b σ g1).bind fun y g2=>QdD x y g2
noncomputable def pAdd (x y:D) (g:G):Res D:=match x,y with
 | .int i,.int j=>.ok (.int (i+j)) g
 | .tup xs,.tup ys=>if xs.length+ys.length≤SZ then .ok (.tup (xs++ys)) g else .stuck
 | .ref n,.ref m=>(match g[n]?,g[m]? with
  | some (.lst xs),some (.lst ys)=>if xs.length+ys.length≤SZ then .ok (.ref g.length) (g++[.lst (xs++ys)]) else .stuck
  | _,_=>.stuck)
 | _,_=>.stuck
noncomputable def pSub (x y:D) (g:G):Res D:=match x,y with
 | .int i,.int j=>.ok (.int (i - j)) g
 | _,_=>.stuck
noncomputable def cM (i:Int):Prop:=-(2 ^ 64)<i∧i<2 ^ 64
noncomputable instance (j:Int):Decidable (cM j):=inferInstanceAs (Decidable (_∧_))
noncomputable def pMul (x y:D) (g:G):Res D:=match x,y with
 | .int i,.int j=>if cM i∨cM j then .ok (.int (i*j)) g else .stuck
 | .tup ds,.int k=>if (0≤k∧k<1073741824)∧ds.length*k.toNat≤SZ then .ok (.tup (List.replicate k.toNat ds).flatten) g else .stuck
 | _,_=>.stuck
noncomputable def QK (x y:D) (g:G):Res D:=match x,y with
 | .int i,.int j=>if 0<j∧j<1073741824 then .ok (.int (i / j)) g else .stuck
 | _,_=>.stuck
noncomputable def pMod (x y:D) (g:G):Res D:=match x,y with
 | .int i,.int j=>if 0<j then .ok (.int (i % j)) g else .stuck
 | _,_=>.stuck
noncomputable def pNeg (x:D) (g:G):Res D:=match x with
 | .int i=>.ok (.int (-i)) g
 | _=>.stuck
noncomputable def pCmp (r:Int->Int->Bool) (x y:D) (g:G):Res D:=match x,y with
 | .int i,.int j=>.ok (.bl (r i j)) g
 | _,_=>.stuck
noncomputable def pLt:=pCmp fun i j=>decide (i<j)
noncomputable def pGt:=pCmp fun i j=>decide (j<i)
noncomputable def pGe:=pCmp fun i j=>decide (j≤i)
noncomputable def b2I (b:Bool):Int:=if b then 1 else 0
noncomputable def eqGs (eq:D->D->Option Bool):List D->List D->Option Bool
 | [],[]=>some true
 | x::xs,y::ys=>(match eq x y,eqGs eq xs ys with
  | some a,some b=>some (a && b)
  | _,_=>none)
 | _,_=>some false
noncomputable def eqI:Nat->D->D->Option Bool
 | 0,x,y=>(match x,y with
  | .int i,.int j=>some (i == j)
  | _,_=>none)
 | f+1,x,y=>(match x,y with
  | .int i,.int j=>some (i == j)
  | .tup xs,.tup ys=>eqGs (eqI f) xs ys
  | _,_=>none)
noncomputable def eqT (g:G) (x y:D):Option Bool:=match x,y with
 | .int i,.int j=>some (i == j)
 | .str s,.str t=>some (s == t)
 | .bl a,.bl b=>some (a == b)
 | .tup xs,.tup ys=>eqGs (eqI 2) xs ys
 | .ref n,.ref m=>(match g[n]?,g[m]? with
  | some (.lst xs),some (.lst ys)=>if xs.length=ys.length then eqGs (eqI 2) xs ys else some false
  | _,_=>none)
 | _,_=>none
noncomputable def pEq (x y:D) (g:G):Res D:=match eqT g x y with
 | some b=>.ok (.bl b) g
 | none=>.stuck
noncomputable def QcB:List D->Option (List Int)
 | []=>some []
 | .int i::r=>(QcB r).map (i :: ·)
 | _::_=>none
noncomputable def neT (g:G) (x y:D):Option Bool:=match x,y with
 | .int i,.int j=>some (i == j)
 | .bl a,.bl b=>some (a == b)
 | .ref n,.ref m=>(match g[n]?,g[m]? with
  | some (.lst xs),some (.lst ys)=>if xs.length=ys.length then eqGs (eqI 2) xs ys else some false
  | _,_=>none)
 | _,_=>none
noncomputable def pNe (x y:D) (g:G):Res D:=match neT g x y with
 | some b=>.ok (.bl (!b)) g
 | none=>.stuck
noncomputable def Qh4:D->Bool
 | .non=>true
 | _=>false
noncomputable def pIs (x y:D) (g:G):Res D:=match y with
 | .non=>.ok (.bl (Qh4 x)) g
 | _=>.stuck
noncomputable def atD {α:Type} (xs:List α) (i:Int):Option α:=(ixD xs.length i).bind fun j=>xs[j]?
noncomputable def pIx (x y:D) (g:G):Res D:=match x,y with
 | .tup ds,.int i=>(match atD ds i with
  | some d=>.ok d g
  | none=>.stuck)
 | .fl ds,.int i=>(match atD ds i with
  | some d=>.ok d g
  | none=>.stuck)
 | .ref n,.int i=>(match g[n]? with
  | some (.lst ds)=>(match atD ds i with
   | some d=>.ok d g
   | none=>.stuck)
  | _=>.stuck)
 | .str s,.int i=>if s.length≤SZ then (match atD s.cps.toList i with
  | some c=>.ok (.str ⟨#[c]⟩) g
  | none=>.stuck) else .stuck
 | _,_=>.stuck
noncomputable def sIxD (n d:Nat):Option Int->Nat
 | none=>d
 | some v=>if v<0 then (v+(n:Int)).toNat else min v.toNat n
noncomputable def cutD {α:Type} (xs:List α) (lo hi:Option Int):List α:=(xs.drop (sIxD xs.length 0 lo)).take (sIxD xs.length xs.length hi - sIxD xs.length 0 lo)
noncomputable def QcC (x:D) (lo hi:Option Int) (g:G):Res D:=match x with
 | .tup ds=>.ok (.tup (cutD ds lo hi)) g
 | .fl ds=>.ok (.ref g.length) (g++[.lst (cutD ds lo hi)])
 | .ref n=>(match g[n]? with
  | some (.lst ds)=>.ok (.ref g.length) (g++[.lst (cutD ds lo hi)])
  | _=>.stuck)
 | _=>.stuck
noncomputable abbrev MO:=S3->G->Res (Option Int)
noncomputable def Zb:MO:=fun _ g=>.ok none g
noncomputable def YJ (a:ME):MO:=fun σ g=>(a σ g).bind fun d g1=>match d with
 | .int i=>.ok (some i) g1
 | _=>.stuck
noncomputable def ZA (a:ME) (lo hi:MO):ME:=fun σ g=>(a σ g).bind fun x g1=>(lo σ g1).bind fun l g2=>(hi σ g2).bind fun h g3=>QcC x l h g3
noncomputable def pLen (x:D) (g:G):Res D:=match x with
 | .tup ds=>.ok (.int ds.length) g
 | .fl ds=>.ok (.int ds.length) g
 | .ref n=>(match g[n]? with
  | some (.lst ds)=>.ok (.int ds.length) g
  | _=>.stuck)
 | _=>.stuck
noncomputable def ZH (x:D) (g:G):Res D:=match x with
 | .tup ds=>.ok (.tup ds) g
 | .fl ds=>.ok (.tup ds) g
 | .ref n=>(match g[n]? with
  | some (.lst ds)=>.ok (.tup ds) g
  | _=>.stuck)
 | _=>.stuck
noncomputable def Qaa (x:D) (g:G):Res D:=match x with
 | .tup ds=>.ok (.ref g.length) (g++[.lst ds])
 | .fl ds=>.ok (.ref g.length) (g++[.lst ds])
 | .ref n=>(match g[n]? with
  | some (.lst ds)=>.ok (.ref g.length) (g++[.lst ds])
  | _=>.stuck)
 | _=>.stuck
noncomputable def pInt (x:D) (g:G):Res D:=match x with
 | .int i=>.ok (.int i) g
 | .bl b=>.ok (.int (if b then 1 else 0)) g
 | _=>.stuck
noncomputable def Yk (o e:ME):ME:=fun σ g=>(o σ g).bind fun x g1=>match x with
 | .ref n=>(match g1[n]? with
  | some (.lst _)=>(e σ g1).bind fun y g2=>(match g2[n]? with
   | some (.lst ds)=>if ds.length<SZ then .ok .non (g2.set n (.lst (ds++[y]))) else .stuck
   | _=>.stuck)
  | _=>.stuck)
 | _=>.stuck
inductive Ty where
 | non | bool | int | str | tuple | list | dict
 deriving DecidableEq
noncomputable def Ty.name:Ty->String
 | .non => "NoneType" | .bool => "bool" | .int => "int" | .str => "str" | .tuple => "tuple" | .list => "list" | .dict => "dict"
noncomputable def tyLe (t c:Ty):Bool:=t == c || (t == .bool && c == .int)
noncomputable def tyOf (g:G):D->Option Ty
 | .non=>some .non
 | .bl _=>some .bool
 | .int _=>some .int
 | .str _=>some .str
 | .tup _=>some .tuple
 | .fl _=>some .list
 | .ref n=>(match g[n]? with
  | some (.lst _)=>some .list
  | some (.dct _)=>some .dict
  | _=>none)
noncomputable def Zx (c:Ty) (x:D) (g:G):Res D:=match tyOf g x with
 | some t=>.ok (.bl (tyLe t c)) g
 | none=>.stuck
noncomputable def QO (all cs:List Nat) (x:D) (g:G):Res D:=match x with
 | .ref n=>(match g[n]? with
  | some (.exc e)=>if e.1∈all then .ok (.bl (decide (e.1∈cs))) g else .stuck
  | _=>.stuck)
 | .non=>.ok (.bl false) g
 | _=>.stuck
noncomputable def allB:List D->Option Bool
 | []=>some true
 | .bl b::r=>(allB r).map (b && ·)
 | _::_=>none
noncomputable def pAll (x:D) (g:G):Res D:=match x with
 | .ref n=>(match g[n]? with
  | some (.lst ds)=>(match allB ds with
   | some b=>.ok (.bl b) g
   | none=>.stuck)
  | _=>.stuck)
 | _=>.stuck
noncomputable def JK:D->Bool
 | .non=>true
 | .bl _=>true
 | .int _=>true
 | .str _=>true
 | _=>false
noncomputable def eqF (x y:D):Bool:=match x,y with
 | .non,.non=>true
 | .bl a,.bl b=>a == b
 | .int i,.int j=>i == j
 | .str s,.str t=>s == t
 | .bl a,.int j=>b2I a == j
 | .int i,.bl b=>i == b2I b
 | _,_=>false
noncomputable def pIn (neg:Bool) (x y:D) (g:G):Res D:=match Qr g y with
 | some (_,ds)=>if JK x=true∧ds.all JK=true then .ok (.bl (if neg=true then !(ds.any fun d=>eqF d x) else ds.any fun d=>eqF d x)) g else .stuck
 | none=>.stuck
end L3
end
section
namespace L3
open PySem PySem.Spec PyProof.Rows L2
noncomputable def SqF (K:PySem.W.Frag) (H:Hp) (a:Addr) (xs:List V):Prop:=(∃ o,H a=some (.frz o (.lst xs)))∨SqL K (fun _=>none) a xs
theorem SqF.sq {K:PySem.W.Frag} {H:Hp} {a:Addr} {xs:List V} (h:SqF K H a xs):SqL K H a xs:=by
 rcases h with⟨o,h⟩ | (h | ⟨o,h⟩) | h
 ·exact .inl (.inr ⟨o,h⟩)
 ·cases h
 ·cases h
 ·exact .inr h
mutual
inductive Den (K:PySem.W.Frag) (μ:List Addr) (H:Hp):V->D->Prop where
 | non:Den K μ H .non .non
 | bl (b:Bool):Den K μ H (.bl b) (.bl b)
 | int (i:Int):Den K μ H (.int i) (.int i)
 | str (x:Str):Den K μ H (.str x) (.str x)
 | ref {n:Nat} {a:Addr} (h:μ[n]?=some a):Den K μ H (.ref a) (.ref n)
 | tup {a:Addr} {vs:List V} {ds:List D} (h:SqT K H a vs) (hs:Dens K μ H vs ds):Den K μ H (.ref a) (.tup ds)
 | fl {a:Addr} {vs:List V} {ds:List D} (h:SqF K H a vs) (hs:Dens K μ H vs ds):Den K μ H (.ref a) (.fl ds)
inductive Dens (K:PySem.W.Frag) (μ:List Addr) (H:Hp):List V->List D->Prop where
 | nil:Dens K μ H [] []
 | cons {v:V} {d:D} {vs:List V} {ds:List D} (h:Den K μ H v d) (hs:Dens K μ H vs ds):Dens K μ H (v::vs) (d::ds)
end
structure Ext (K:PySem.W.Frag) (μ:List Addr) (H:Hp) (μ':List Addr) (H':Hp):Prop where
 pre:∃ t,μ'=μ++t
 tup:∀ a xs,SqT K H a xs->SqT K H' a xs
 fl:∀ a xs,SqF K H a xs->SqF K H' a xs
section
variable {K:PySem.W.Frag} {ca:Nat->Addr} {μ μ' μ'':List Addr} {H H' H'':Hp}
theorem Ext.refl:Ext K μ H μ H:=⟨⟨[],by simp⟩,fun _ _ h=>h,fun _ _ h=>h⟩
theorem Ext.trans (a:Ext K μ H μ' H') (b:Ext K μ' H' μ'' H''):Ext K μ H μ'' H'':=by
 obtain⟨t,e⟩:=a.pre
 obtain⟨u,f⟩:=b.pre
 exact⟨⟨t++u,by rw [f,e,List.append_assoc]⟩,fun x xs h=>b.tup x xs (a.tup x xs h),fun x xs h=>b.fl x xs (a.fl x xs h)⟩
theorem Ext.at (e:Ext K μ H μ' H') {n:Nat} {a:Addr} (h:μ[n]?=some a):μ'[n]?=some a:=by
 obtain⟨t,rfl⟩:=e.pre
 have hl:n<μ.length:=(List.getElem?_eq_some_iff.mp h).1
 rw [List.getElem?_append_left hl]
 exact h
mutual
theorem Den.mono (e:Ext K μ H μ' H'):∀ {v:V} {d:D},Den K μ H v d->Den K μ' H' v d
 | _,_,.non=>.non
 | _,_,.bl b=>.bl b
 | _,_,.int i=>.int i
 | _,_,.str x=>.str x
 | _,_,.ref h=>.ref (e.at h)
 | _,_,.tup h hs=>.tup (e.tup _ _ h) (Dens.mono e hs)
 | _,_,.fl h hs=>.fl (e.fl _ _ h) (Dens.mono e hs)
theorem Dens.mono (e:Ext K μ H μ' H'):∀ {vs:List V} {ds:List D},Dens K μ H vs ds->Dens K μ' H' vs ds
 | _,_,.nil=>.nil
 | _,_,.cons h hs=>.cons (Den.mono e h) (Dens.mono e hs)
end
theorem Dens.length:∀ {vs:List V} {ds:List D},Dens K μ H vs ds->vs.length=ds.length
 | _,_,.nil=>rfl
 | _,_,.cons _ t=>by rw [List.length_cons,List.length_cons,Dens.length t]
theorem Dens.get:∀ {vs:List V} {ds:List D} {i:Nat} {d:D},Dens K μ H vs ds->ds[i]?=some d->∃ v,vs[i]?=some v∧Den K μ H v d
 | _,_,_,_,.nil,e=>by simp at e
 | _,_,0,_,.cons r _,e=>by simp at e; subst e; exact⟨_,rfl,r⟩
 | _,_,i+1,x,.cons _ t,e=>by
  obtain⟨u,h1,h2⟩:=Dens.get (i:=i) (d:=x) t (by simpa using e)
  exact⟨u,by simpa using h1,h2⟩
theorem Dens.getV:∀ {vs:List V} {ds:List D} {i:Nat} {v:V},Dens K μ H vs ds->vs[i]?=some v->∃ d,ds[i]?=some d∧Den K μ H v d
 | _,_,_,_,.nil,e=>by simp at e
 | _,_,0,_,.cons r _,e=>by simp at e; subst e; exact⟨_,rfl,r⟩
 | _,_,i+1,x,.cons _ t,e=>by
  obtain⟨u,h1,h2⟩:=Dens.getV (i:=i) (v:=x) t (by simpa using e)
  exact⟨u,by simpa using h1,h2⟩
theorem Dens.append:∀ {vs ws:List V} {ds es:List D},Dens K μ H vs ds->Dens K μ H ws es->Dens K μ H (vs++ws) (ds++es)
 | _,_,_,_,.nil,h=>h
 | _,_,_,_,.cons a b,h=>.cons a (Dens.append b h)
theorem Dens.set {x:V} {u:D} (r:Den K μ H x u):∀ {xs:List V} {us:List D} (i:Nat),Dens K μ H xs us->Dens K μ H (xs.set i x) (us.set i u)
 | _,_,_,.nil=>.nil
 | _,_,0,.cons _ t=>.cons r t
 | _,_,i+1,.cons q t=>.cons q (Dens.set r i t)
theorem Dens.take:∀ {xs:List V} {us:List D} (n:Nat),Dens K μ H xs us->Dens K μ H (xs.take n) (us.take n)
 | _,_,0,_=>.nil
 | _,_,_+1,.nil=>.nil
 | _,_,n+1,.cons r t=>.cons r (Dens.take n t)
theorem Dens.drop:∀ {xs:List V} {us:List D} (n:Nat),Dens K μ H xs us->Dens K μ H (xs.drop n) (us.drop n)
 | _,_,0,r=>r
 | _,_,_+1,.nil=>.nil
 | _,_,n+1,.cons _ t=>Dens.drop n t
theorem Dens.ints (ns:List Int):Dens K μ H (ns.map V.int) (ns.map D.int):=by
 induction ns with
 | nil=>exact .nil
 | cons n r ih=>exact .cons (.int n) ih
noncomputable def FRel (K:PySem.W.Frag) (μ:List Addr) (H:Hp):List (Str×V)->List (Str×D)->Prop:=Paired fun p q=>p.1=q.1∧Den K μ H p.2 q.2
noncomputable def KRel (K:PySem.W.Frag) (μ:List Addr) (H:Hp):List (Key×V)->List (Key×D)->Prop:=Paired fun p q=>p.1=q.1∧Den K μ H p.2 q.2
noncomputable def XOb (ca:Nat->Addr) (x:Xc) (o:Obj):Prop:=o.cls=.ref (ca x.1)∧o.dict=none
theorem XOb.map {ca:Nat->Addr} {x:Xc} {o:Obj} (h:XOb ca x o) (f:Array Value->Array Value):XOb ca x (o.mapFields f):=by
 obtain⟨c,d,dt,sl⟩:=o
 cases dt <;> exact h
noncomputable def XO (ca:Nat->Addr) (a:Addr) (x:Xc):HO:=.ext fun h=>∃ o vs,h.get? a=some o∧XOb ca x o∧o.data=.fields vs
noncomputable def ORep (K:PySem.W.Frag) (ca:Nat->Addr) (μ:List Addr) (H:Hp) (a:Addr):GO->Prop
 | .dct ks=>∃ kv,H a=some (.dK kv)∧KRel K μ H kv ks
 | .exc x=>H a=some (XO ca a x)
 | .lst ds=>∃ vs,H a=some (.lst vs)∧Dens K μ H vs ds
 | .ins c fs=>∃ dx fv,H a=some (.ins (ca c) dx fv)∧FRel K μ H fv fs
structure GRep (K:PySem.W.Frag) (ca:Nat->Addr) (μ:List Addr) (H:Hp) (g:G):Prop where
 len:μ.length=g.length
 nd:μ.Nodup
 obj:∀(n:Nat) (a:Addr) (o:GO),μ[n]?=some a->g[n]?=some o->ORep K ca μ H a o
structure Rep (K:PySem.W.Frag) (ca:Nat->Addr) (μ:List Addr) (σ3:S3) (g:G) (σ:L2.St) (H:Hp):Prop where
 g:GRep K ca μ H g
 len:σ.length=σ3.length
 st:∀(i:Nat) (d:D),σ3[i]?=some (some d)->∃ v,σ[i]?=some (some v)∧Den K μ H v d
theorem FRel.mono (e:Ext K μ H μ' H') {fv:List (Str×V)} {fs:List (Str×D)} (h:FRel K μ H fv fs):FRel K μ' H' fv fs:=Paired.imp' (fun _ _ q=>⟨q.1,q.2.mono e⟩) h
theorem KRel.mono (e:Ext K μ H μ' H') {fv:List (Key×V)} {fs:List (Key×D)} (h:KRel K μ H fv fs):KRel K μ' H' fv fs:=Paired.imp' (fun _ _ q=>⟨q.1,q.2.mono e⟩) h
theorem Rep.go {σ3:S3} {g g':G} {σ:L2.St} (r:Rep K ca μ σ3 g σ H) (e:Ext K μ H μ' H') (h:GRep K ca μ' H' g'):Rep K ca μ' σ3 g' σ H' :=
 ⟨h,r.len,fun i d z=>by obtain⟨v,h1,h2⟩:=r.st i d z; exact⟨v,h1,h2.mono e⟩⟩
theorem GRep.addr {g:G} (r:GRep K ca μ H g) {n:Nat} {o:GO} (h:g[n]?=some o):∃ a,μ[n]?=some a∧ORep K ca μ H a o:=by
 have hl:n<g.length:=(List.getElem?_eq_some_iff.mp h).1
 have hm:n<μ.length:=by rw [r.len]; exact hl
 exact⟨μ[n],by simp [hm],r.obj n _ o (by simp [hm]) h⟩
theorem ORep.is {a:Addr} {o:GO} (h:ORep K ca μ H a o):∃ u,H a=some u:=by
 cases o with
 | lst ds=>obtain⟨_,h,_⟩:=h; exact⟨_,h⟩
 | ins c fs=>obtain⟨_,_,h,_⟩:=h; exact⟨_,h⟩
 | dct ks=>obtain⟨_,h,_⟩:=h; exact⟨_,h⟩
 | exc x=>exact⟨_,h⟩
theorem GRep.known {g:G} (r:GRep K ca μ H g) {a:Addr} (h:a∈μ):∃ u,H a=some u:=by
 obtain⟨n,hn⟩:=List.getElem?_of_mem h
 have hl:n<μ.length:=(List.getElem?_eq_some_iff.mp hn).1
 have hg:n<g.length:=by rw [← r.len]; exact hl
 exact(r.obj n a g[n] hn (by simp [hg])).is
theorem QU {p:Addr} {o:HO} (hp:H p=none):Ext K μ H μ (upd H p o):=⟨⟨[],by simp⟩,fun a xs h=>by
 rcases h with(h | ⟨u,h⟩) | h
 ·exact .inl (.inl (by rw [Qw (QI h hp)]; exact h))
 ·exact .inl (.inr ⟨u,by rw [Qw (QI h hp)]; exact h⟩)
 ·exact .inr h,fun a xs h=>by
 rcases h with⟨u,h⟩ | h
 ·exact .inl ⟨u,by rw [Qw (QI h hp)]; exact h⟩
 ·exact .inr h⟩
theorem ORep.mono {a:Addr} {o:GO} (e:Ext K μ H μ' H') (ha:∀ u,H a=some u->H' a=some u) (h:ORep K ca μ H a o):ORep K ca μ' H' a o:=by
 cases o with
 | lst ds=>obtain⟨vs,h,q⟩:=h; exact⟨vs,ha _ h,q.mono e⟩
 | ins c fs=>obtain⟨dx,fv,h,q⟩:=h; exact⟨dx,fv,ha _ h,q.mono e⟩
 | dct ks=>obtain⟨kv,h,q⟩:=h; exact⟨kv,ha _ h,q.mono e⟩
 | exc x=>exact ha _ h
theorem GRep.new {g:G} {p:Addr} {o:HO} (r:GRep K ca μ H g) (hp:H p=none):GRep K ca μ (upd H p o) g :=
 ⟨r.len,r.nd,fun n a u h1 h2=>(r.obj n a u h1 h2).mono (QU hp) fun z hz=>by rw [Qw (QI hz hp)]; exact hz⟩
theorem QD {p:Addr} {o:HO} (hp:H p=none):Ext K μ H (μ++[p]) (upd H p o):=⟨⟨[p],rfl⟩,(QU (μ:=μ) hp).tup,(QU (μ:=μ) hp).fl⟩
theorem GRep.push {g:G} {p:Addr} {o:HO} {u:GO} (r:GRep K ca μ H g) (hp:H p=none) (ho:ORep K ca (μ++[p]) (upd H p o) p u):GRep K ca (μ++[p]) (upd H p o) (g++[u]):=by
 have nm:p∉μ:=fun h=>by
  obtain⟨z,hz⟩:=r.known h
  rw [hp] at hz; cases hz
 refine⟨by rw [List.length_append,List.length_append,r.len]; rfl,?_,fun n a w h1 h2=>?_⟩
 ·rw [List.nodup_append]
  exact⟨r.nd,by simp,fun x hx y hy e=>nm (by rw [List.mem_singleton.mp hy] at e; rw [← e]; exact hx)⟩
 ·by_cases hn:n<g.length
  ·rw [List.getElem?_append_left hn] at h2
   rw [List.getElem?_append_left (by rw [r.len]; exact hn)] at h1
   exact(r.obj n a w h1 h2).mono (QD hp) fun z hz=>by rw [Qw (QI hz hp)]; exact hz
  ·rw [List.getElem?_append_right (by omega)] at h2
   rw [List.getElem?_append_right (by rw [r.len]; omega)] at h1
   have e0:n - g.length=0:=by
    have:=(List.getElem?_eq_some_iff.mp h2).1
    simp at this; omega
   rw [e0] at h2
   rw [r.len,e0] at h1
   simp at h1 h2
   subst h1 h2
   exact ho
theorem Jj {a:Addr} {o o':HO} (h:H a=some o) (no:∀ xs,o≠.tup xs) (nf:∀ b u,o≠.frz b u):Ext K μ H μ (upd H a o'):=⟨⟨[],by simp⟩,fun b xs hb=>by
 rcases hb with(z | ⟨u,z⟩) | z
 ·exact .inl (.inl (by rw [Qw (QhJ z h (Ne.symm (no xs)))]; exact z))
 ·exact .inl (.inr ⟨u,by rw [Qw (QhJ z h (Ne.symm (nf u _)))]; exact z⟩)
 ·exact .inr z,fun b xs hb=>by
 rcases hb with⟨u,z⟩ | z
 ·exact .inl ⟨u,by rw [Qw (QhJ z h (Ne.symm (nf u _)))]; exact z⟩
 ·exact .inr z⟩
theorem GRep.set {g:G} {n:Nat} {a:Addr} {o o':HO} {u:GO} (r:GRep K ca μ H g) (hn:μ[n]?=some a) (h:H a=some o) (no:∀ xs,o≠.tup xs) (nf:∀ b u,o≠.frz b u) (ho:ORep K ca μ (upd H a o') a u) :
  GRep K ca μ (upd H a o') (g.set n u):=by
 refine⟨by rw [List.length_set,r.len],r.nd,fun m b w h1 h2=>?_⟩
 by_cases e:m=n
 ·subst e
  rw [hn] at h1; cases h1
  have hl:m<g.length:=by
   rw [← r.len]; exact(List.getElem?_eq_some_iff.mp hn).1
  rw [List.getElem?_set_self hl] at h2; cases h2
  exact ho
 ·rw [List.getElem?_set_ne (Ne.symm e)] at h2
  have nb:b≠a:=fun z=>by
   subst z
   have e1:=(List.getElem?_eq_some_iff.mp h1)
   have e2:=(List.getElem?_eq_some_iff.mp hn)
   obtain⟨l1,q1⟩:=e1
   obtain⟨l2,q2⟩:=e2
   exact e ((List.getElem_inj r.nd).mp (q1.trans q2.symm))
  exact(r.obj m b w h1 h2).mono (Jj h no nf) fun z hz=>by rw [Qw nb]; exact hz
noncomputable abbrev XS:=Xc->L2.St->Hp->Prop
noncomputable def FpW (X:Cx) (pins:List (Addr×Obj)) (H:Hp) (b:Addr):Prop :=
 H b=none∧b≠X.env.locals∧b∉X.fs∧(b∈X.ex∨X.s₀.heap.get? b=none)∧(∀ x c,X.env.cells.lookup x=some c->c≠b)∧∀ p∈X.pn++pins,p.1≠b
structure Fl (X:Cx) (ca:Nat->Addr) (a:Addr) (x:Xc) (H:Hp) (h:Heap):Prop where
 fp:FpW X [] H a
 ln:x.2=none
 ex:∃ oe vs,h.get? a=some oe∧XOb ca x oe∧oe.data=.fields vs∧1<vs.size ∧
  (vs[1]?=some .none∨∃ T oT ts,vs[1]?=some (.ref T)∧T≠a∧FpW X [] H T∧h.get? T=some oT∧oT.data=.fields ts∧3<ts.size∧(ts[3]?=some .none∨ts[3]?=some (rawInt X.env.locals)))
noncomputable def XE (X:Cx) (ca:Nat->Addr) (Φ:XS):Value->Shared->Prop:=fun v s=>∃ a x σ H,v=.ref a∧Inv X [] σ H s∧Fl X ca a x H s.heap∧Φ x σ H
noncomputable abbrev xon (X:Cx) (pn:List (Addr×Obj)):Cx:={ X with pn:=pn,xe:=fun _ _=>False }
noncomputable abbrev xat (X:Cx) (ca:Nat->Addr) (pn:List (Addr×Obj)) (Φ:XS):Cx:={ X with pn:=pn,xe:=XE (xon X pn) ca Φ }
noncomputable def RaP (K:PySem.W.Frag) (ca:Nat->Addr) (Φ:XS) (σ:L2.St) (H:Hp) (μ:List Addr) (x:Xc) (g':G):Prop:=∀ H' μ',Ext K μ H μ' H'->GRep K ca μ' H' g'->Φ x σ H'
noncomputable def Post (K:PySem.W.Frag) (ca:Nat->Addr) (Φ:XS) (σ:L2.St) (Q:VK) (H:Hp) (μ:List Addr):Res D->Prop
 | .ok d g'=>∀ v H' μ',Ext K μ H μ' H'->GRep K ca μ' H' g'->Den K μ' H' v d->Q v H'
 | .raise x g'=>RaP K ca Φ σ H μ x g'
 | .stuck=>False
noncomputable def PostT (K:PySem.W.Frag) (ca:Nat->Addr) (Φ:XS) (σ:L2.St) (Q:Bool->Hp->Prop) (H:Hp) (μ:List Addr):Res Bool->Prop
 | .ok b g'=>∀ H' μ',Ext K μ H μ' H'->GRep K ca μ' H' g'->Q b H'
 | .raise x g'=>RaP K ca Φ σ H μ x g'
 | .stuck=>False
noncomputable def PostA (K:PySem.W.Frag) (ca:Nat->Addr) (Φ:XS) (σ:L2.St) (Q:List V->Hp->Prop) (H:Hp) (μ:List Addr):Res (List D)->Prop
 | .ok ds g'=>∀ vs H' μ',Ext K μ H μ' H'->GRep K ca μ' H' g'->Dens K μ' H' vs ds->Q vs H'
 | .raise x g'=>RaP K ca Φ σ H μ x g'
 | .stuck=>False
noncomputable def PostS (K:PySem.W.Frag) (ca:Nat->Addr) (Φ:XS) (E:Ends) (H:Hp) (μ:List Addr):Out->Prop
 | .nx σ3 g'=>∀ σ' H' μ',Ext K μ H μ' H'->Rep K ca μ' σ3 g' σ' H'->E.nx σ' H'
 | .bk σ3 g'=>∀ σ' H' μ',Ext K μ H μ' H'->Rep K ca μ' σ3 g' σ' H'->E.bk σ' H'
 | .ct σ3 g'=>∀ σ' H' μ',Ext K μ H μ' H'->Rep K ca μ' σ3 g' σ' H'->E.ct σ' H'
 | .rt d g'=>∀ v H' μ',Ext K μ H μ' H'->GRep K ca μ' H' g'->Den K μ' H' v d->E.rt v H'
 | .raise x σ3 g'=>∀ σ' H' μ',Ext K μ H μ' H'->Rep K ca μ' σ3 g' σ' H'->Φ x σ' H'
 | .stuck=>False
noncomputable def up (K:PySem.W.Frag) (ca:Nat->Addr) (Φ:XS) (m:ME):TE:=fun σ H Q=>∃ σ3 g μ,Rep K ca μ σ3 g σ H∧Post K ca Φ σ Q H μ (m σ3 g)
noncomputable def upT (K:PySem.W.Frag) (ca:Nat->Addr) (Φ:XS) (m:MT):TT:=fun σ H Q=>∃ σ3 g μ,Rep K ca μ σ3 g σ H∧PostT K ca Φ σ Q H μ (m σ3 g)
noncomputable def upA (K:PySem.W.Frag) (ca:Nat->Addr) (Φ:XS) (m:MA):TA:=fun σ H Q=>∃ σ3 g μ,Rep K ca μ σ3 g σ H∧PostA K ca Φ σ Q H μ (m σ3 g)
noncomputable def upS (K:PySem.W.Frag) (ca:Nat->Addr) (Φ:XS) (m:MS):TS:=fun E σ H=>∃ σ3 g μ,Rep K ca μ σ3 g σ H∧PostS K ca Φ E H μ (m σ3 g)
noncomputable def PE3 (ca:Nat->Addr) (X:Cx) (e:Expr) (m:ME):Prop:=∀ pn Φ,PE (xat X ca pn Φ) e (up X.K ca Φ m)
noncomputable def PT3 (ca:Nat->Addr) (X:Cx) (e:Expr) (m:MT):Prop:=∀ pn Φ,PT (xat X ca pn Φ) e (upT X.K ca Φ m)
noncomputable def PW3 (ca:Nat->Addr) (X:Cx) (e:Expr) (m:MT):Prop:=∀ pn Φ,PW (xat X ca pn Φ) e (upT X.K ca Φ m)
noncomputable def PA3 (ca:Nat->Addr) (X:Cx) (es:List Expr) (m:MA):Prop:=∀ pn Φ,PA (xat X ca pn Φ) es (upA X.K ca Φ m)
noncomputable def PS3 (ca:Nat->Addr) (X:Cx) (st:Stmt) (m:MS):Prop:=∀ pn Φ,PS (xat X ca pn Φ) st (upS X.K ca Φ m)
noncomputable def PSs3 (ca:Nat->Addr) (X:Cx) (sts:List Stmt) (m:MS):Prop:=∀ pn Φ,PSs (xat X ca pn Φ) sts (upS X.K ca Φ m)
variable {Φ:XS} {σ:L2.St}
theorem RaP.go {x:Xc} {g':G} (e:Ext K μ H μ' H') (h:RaP K ca Φ σ H μ x g'):RaP K ca Φ σ H' μ' x g':=fun H2 μ2 e2=>h H2 μ2 (e.trans e2)
theorem Post.go {Q:VK} {r:Res D} (e:Ext K μ H μ' H') (h:Post K ca Φ σ Q H μ r):Post K ca Φ σ Q H' μ' r:=by
 cases r with
 | ok d g'=>exact fun v H2 μ2 e2=>h v H2 μ2 (e.trans e2)
 | raise _ _=>exact RaP.go e h
 | stuck=>exact h
theorem PostT.go {Q:Bool->Hp->Prop} {r:Res Bool} (e:Ext K μ H μ' H') (h:PostT K ca Φ σ Q H μ r):PostT K ca Φ σ Q H' μ' r:=by
 cases r with
 | ok d g'=>exact fun H2 μ2 e2=>h H2 μ2 (e.trans e2)
 | raise _ _=>exact RaP.go e h
 | stuck=>exact h
theorem PostA.go {Q:List V->Hp->Prop} {r:Res (List D)} (e:Ext K μ H μ' H') (h:PostA K ca Φ σ Q H μ r):PostA K ca Φ σ Q H' μ' r:=by
 cases r with
 | ok d g'=>exact fun v H2 μ2 e2=>h v H2 μ2 (e.trans e2)
 | raise _ _=>exact RaP.go e h
 | stuck=>exact h
theorem PostS.go {E:Ends} {r:Out} (e:Ext K μ H μ' H') (h:PostS K ca Φ E H μ r):PostS K ca Φ E H' μ' r:=by
 cases r with
 | nx _ _=>exact fun v H2 μ2 e2=>h v H2 μ2 (e.trans e2)
 | bk _ _=>exact fun v H2 μ2 e2=>h v H2 μ2 (e.trans e2)
 | ct _ _=>exact fun v H2 μ2 e2=>h v H2 μ2 (e.trans e2)
 | rt _ _=>exact fun v H2 μ2 e2=>h v H2 μ2 (e.trans e2)
 | raise _ _ _=>exact fun v H2 μ2 e2=>h v H2 μ2 (e.trans e2)
 | stuck=>exact h
theorem Post.pure {Q:VK} {g:G} {v:V} {d:D} (h:Post K ca Φ σ Q H μ (.ok d g)) (r:GRep K ca μ H g) (q:Den K μ H v d):Q v H:=h v H μ .refl r q
theorem RaP.stmt {x:Xc} {σ3:S3} {g g':G} {E:Ends} (R:Rep K ca μ σ3 g σ H) (h:PostS K ca Φ E H μ (.raise x σ3 g')):RaP K ca Φ σ H μ x g':=fun H' μ' e r=>h σ H' μ' e (R.go e r)
theorem Qc7 {m:ME} {α:Type} {k:D->G->Res α} {σ3:S3} {g:G} (R:Rep K ca μ σ3 g σ H) {P:Res α->Hp->List Addr->Prop} (hp:P ((m σ3 g).bind k) H μ)
  (hst:∀ H μ,¬ P .stuck H μ) (hra:∀ e g H μ,P (.raise e g) H μ->RaP K ca Φ σ H μ e g) (hgo:∀ r H μ H' μ',Ext K μ H μ' H'->P r H μ->P r H' μ') :
  up K ca Φ m σ H fun x H1=>∃ d g1 μ1,Ext K μ H μ1 H1∧Rep K ca μ1 σ3 g1 σ H1∧Den K μ1 H1 x d∧P (k d g1) H1 μ1:=by
 refine⟨σ3,g,μ,R,?_⟩
 cases hm:m σ3 g with
 | ok d g1 =>
  rw [hm] at hp
  exact fun v H1 μ1 e1 r1 d1=>⟨d,g1,μ1,e1,R.go e1 r1,d1,hgo _ _ _ _ _ e1 hp⟩
 | raise e g1=>rw [hm] at hp; exact hra _ _ _ _ hp
 | stuck=>rw [hm] at hp; exact(hst _ _ hp).elim
theorem Qab {m:ME} {k:D->G->Res D} {σ3:S3} {g:G} {Q:VK} (R:Rep K ca μ σ3 g σ H) (hp:Post K ca Φ σ Q H μ ((m σ3 g).bind k)) :
  up K ca Φ m σ H fun x H1=>∃ d g1 μ1,Ext K μ H μ1 H1∧Rep K ca μ1 σ3 g1 σ H1∧Den K μ1 H1 x d∧Post K ca Φ σ Q H1 μ1 (k d g1) :=
 Qc7 (P:=fun r H μ=>Post K ca Φ σ Q H μ r) R hp (fun _ _ h=>h) (fun _ _ _ _ h=>h) fun _ _ _ _ _ e h=>h.go e
theorem QjD {m:ME} {k:D->G->Res Bool} {σ3:S3} {g:G} {Q:Bool->Hp->Prop} (R:Rep K ca μ σ3 g σ H) (hp:PostT K ca Φ σ Q H μ ((m σ3 g).bind k)) :
  up K ca Φ m σ H fun x H1=>∃ d g1 μ1,Ext K μ H μ1 H1∧Rep K ca μ1 σ3 g1 σ H1∧Den K μ1 H1 x d∧PostT K ca Φ σ Q H1 μ1 (k d g1) :=
 Qc7 (P:=fun r H μ=>PostT K ca Φ σ Q H μ r) R hp (fun _ _ h=>h) (fun _ _ _ _ h=>h) fun _ _ _ _ _ e h=>h.go e
theorem QkR {m:ME} {k:D->G->Res (List D)} {σ3:S3} {g:G} {Q:List V->Hp->Prop} (R:Rep K ca μ σ3 g σ H) (hp:PostA K ca Φ σ Q H μ ((m σ3 g).bind k)) :
  up K ca Φ m σ H fun x H1=>∃ d g1 μ1,Ext K μ H μ1 H1∧Rep K ca μ1 σ3 g1 σ H1∧Den K μ1 H1 x d∧PostA K ca Φ σ Q H1 μ1 (k d g1) :=
 Qc7 (P:=fun r H μ=>PostA K ca Φ σ Q H μ r) R hp (fun _ _ h=>h) (fun _ _ _ _ h=>h) fun _ _ _ _ _ e h=>h.go e
theorem QdE {m:MT} {α:Type} {k:Bool->G->Res α} {σ3:S3} {g:G} (R:Rep K ca μ σ3 g σ H) {P:Res α->Hp->List Addr->Prop} (hp:P ((m σ3 g).bind k) H μ)
  (hst:∀ H μ,¬ P .stuck H μ) (hra:∀ e g H μ,P (.raise e g) H μ->RaP K ca Φ σ H μ e g) (hgo:∀ r H μ H' μ',Ext K μ H μ' H'->P r H μ->P r H' μ') :
  upT K ca Φ m σ H fun b H1=>∃ g1 μ1,Ext K μ H μ1 H1∧Rep K ca μ1 σ3 g1 σ H1∧P (k b g1) H1 μ1:=by
 refine⟨σ3,g,μ,R,?_⟩
 cases hm:m σ3 g with
 | ok d g1 =>
  rw [hm] at hp
  exact fun H1 μ1 e1 r1=>⟨g1,μ1,e1,R.go e1 r1,hgo _ _ _ _ _ e1 hp⟩
 | raise e g1=>rw [hm] at hp; exact hra _ _ _ _ hp
 | stuck=>rw [hm] at hp; exact(hst _ _ hp).elim
theorem QjE {m:MT} {k:Bool->G->Res D} {σ3:S3} {g:G} {Q:VK} (R:Rep K ca μ σ3 g σ H) (hp:Post K ca Φ σ Q H μ ((m σ3 g).bind k)) :
  upT K ca Φ m σ H fun b H1=>∃ g1 μ1,Ext K μ H μ1 H1∧Rep K ca μ1 σ3 g1 σ H1∧Post K ca Φ σ Q H1 μ1 (k b g1) :=
 QdE (P:=fun r H μ=>Post K ca Φ σ Q H μ r) R hp (fun _ _ h=>h) (fun _ _ _ _ h=>h) fun _ _ _ _ _ e h=>h.go e
theorem Qfb {m:MT} {k:Bool->G->Res Bool} {σ3:S3} {g:G} {Q:Bool->Hp->Prop} (R:Rep K ca μ σ3 g σ H) (hp:PostT K ca Φ σ Q H μ ((m σ3 g).bind k)) :
  upT K ca Φ m σ H fun b H1=>∃ g1 μ1,Ext K μ H μ1 H1∧Rep K ca μ1 σ3 g1 σ H1∧PostT K ca Φ σ Q H1 μ1 (k b g1) :=
 QdE (P:=fun r H μ=>PostT K ca Φ σ Q H μ r) R hp (fun _ _ h=>h) (fun _ _ _ _ h=>h) fun _ _ _ _ _ e h=>h.go e
theorem QdF {m:MA} {α:Type} {k:List D->G->Res α} {σ3:S3} {g:G} (R:Rep K ca μ σ3 g σ H) {P:Res α->Hp->List Addr->Prop} (hp:P ((m σ3 g).bind k) H μ)
  (hst:∀ H μ,¬ P .stuck H μ) (hra:∀ e g H μ,P (.raise e g) H μ->RaP K ca Φ σ H μ e g) (hgo:∀ r H μ H' μ',Ext K μ H μ' H'->P r H μ->P r H' μ') :
  upA K ca Φ m σ H fun xs H1=>∃ ds g1 μ1,Ext K μ H μ1 H1∧Rep K ca μ1 σ3 g1 σ H1∧Dens K μ1 H1 xs ds∧P (k ds g1) H1 μ1:=by
 refine⟨σ3,g,μ,R,?_⟩
 cases hm:m σ3 g with
 | ok d g1 =>
  rw [hm] at hp
  exact fun v H1 μ1 e1 r1 d1=>⟨d,g1,μ1,e1,R.go e1 r1,d1,hgo _ _ _ _ _ e1 hp⟩
 | raise e g1=>rw [hm] at hp; exact hra _ _ _ _ hp
 | stuck=>rw [hm] at hp; exact(hst _ _ hp).elim
theorem Qfc {m:MA} {k:List D->G->Res D} {σ3:S3} {g:G} {Q:VK} (R:Rep K ca μ σ3 g σ H) (hp:Post K ca Φ σ Q H μ ((m σ3 g).bind k)) :
  upA K ca Φ m σ H fun xs H1=>∃ ds g1 μ1,Ext K μ H μ1 H1∧Rep K ca μ1 σ3 g1 σ H1∧Dens K μ1 H1 xs ds∧Post K ca Φ σ Q H1 μ1 (k ds g1) :=
 QdF (P:=fun r H μ=>Post K ca Φ σ Q H μ r) R hp (fun _ _ h=>h) (fun _ _ _ _ h=>h) fun _ _ _ _ _ e h=>h.go e
theorem QjF {m:MA} {k:List D->G->Res (List D)} {σ3:S3} {g:G} {Q:List V->Hp->Prop} (R:Rep K ca μ σ3 g σ H) (hp:PostA K ca Φ σ Q H μ ((m σ3 g).bind k)) :
  upA K ca Φ m σ H fun xs H1=>∃ ds g1 μ1,Ext K μ H μ1 H1∧Rep K ca μ1 σ3 g1 σ H1∧Dens K μ1 H1 xs ds∧PostA K ca Φ σ Q H1 μ1 (k ds g1) :=
 QdF (P:=fun r H μ=>PostA K ca Φ σ Q H μ r) R hp (fun _ _ h=>h) (fun _ _ _ _ h=>h) fun _ _ _ _ _ e h=>h.go e
theorem Zr {m:ME} {Q Q':VK} (h:up K ca Φ m σ H Q) (i:∀ x H1,Q x H1->Q' x H1):up K ca Φ m σ H Q':=by
 obtain⟨σ3,g,μ,R,p⟩:=h
 refine⟨σ3,g,μ,R,?_⟩
 cases hm:m σ3 g with
 | ok d g1=>rw [hm] at p; exact fun v H1 μ1 e r q=>i _ _ (p v H1 μ1 e r q)
 | raise e g1=>rw [hm] at p; exact p
 | stuck=>rw [hm] at p; exact p
theorem Qag {m:MT} {Q Q':Bool->Hp->Prop} (h:upT K ca Φ m σ H Q) (i:∀ x H1,Q x H1->Q' x H1):upT K ca Φ m σ H Q':=by
 obtain⟨σ3,g,μ,R,p⟩:=h
 refine⟨σ3,g,μ,R,?_⟩
 cases hm:m σ3 g with
 | ok d g1=>rw [hm] at p; exact fun H1 μ1 e r=>i _ _ (p H1 μ1 e r)
 | raise e g1=>rw [hm] at p; exact p
 | stuck=>rw [hm] at p; exact p
theorem Qah {m:MA} {Q Q':List V->Hp->Prop} (h:upA K ca Φ m σ H Q) (i:∀ x H1,Q x H1->Q' x H1):upA K ca Φ m σ H Q':=by
 obtain⟨σ3,g,μ,R,p⟩:=h
 refine⟨σ3,g,μ,R,?_⟩
 cases hm:m σ3 g with
 | ok d g1=>rw [hm] at p; exact fun v H1 μ1 e r q=>i _ _ (p v H1 μ1 e r q)
 | raise e g1=>rw [hm] at p; exact p
 | stuck=>rw [hm] at p; exact p
end
theorem Zn {X:Cx} {e:Expr} {t t':TE} (h:PE X e t) (i:∀ σ H Q,t' σ H Q->t σ H Q):PE X e t':=fun pins s σ H Q I q=>h pins s σ H Q I (i σ H Q q)
theorem Qc8 {X:Cx} {e:Expr} {t t':TT} (h:PT X e t) (i:∀ σ H Q,t' σ H Q->t σ H Q):PT X e t':=fun pins s σ H Q I q=>h pins s σ H Q I (i σ H Q q)
theorem Qfd {X:Cx} {e:Expr} {t t':TT} (h:PW X e t) (i:∀ σ H Q,t' σ H Q->t σ H Q):PW X e t':=fun w pins s σ H Q I q=>h w pins s σ H Q I (i σ H Q q)
theorem Qfe {X:Cx} {e:List Expr} {t t':TA} (h:PA X e t) (i:∀ σ H Q,t' σ H Q->t σ H Q):PA X e t':=fun p pins s σ H Q I q=>h p pins s σ H Q I (i σ H Q q)
theorem YA {X:Cx} {e:Stmt} {t t':TS} (h:PS X e t) (i:∀ D σ H,t' D σ H->t D σ H):PS X e t':=fun pins s σ H D I q=>h pins s σ H D I (i D σ H q)
theorem QdG {X:Cx} {e:List Stmt} {t t':TS} (h:PSs X e t) (i:∀ D σ H,t' D σ H->t D σ H):PSs X e t':=fun pins s σ H D I q=>h pins s σ H D I (i D σ H q)
section
variable {X:Cx} {ca:Nat->Addr} {a b c e:Expr} {es rest:List Expr} {ma mb me:ME} {tc ta tb:MT} {mr:MA} {pos:Pos}
theorem Qb (i:Nat) {x:Str} (hN:X.N[i]?=some x:=by rfl) (hv:Vis X.env.scope x:=by first | exact Or.inl rfl | exact Or.inr (Or.inl rfl) | exact Or.inr (Or.inr rfl)) (hd:(x == ("__debug__" : Str))=false:=by decide)
  (hcd:(x == ("__classdict__" : Str))=false:=by decide):PE3 ca X (.Name x pos) (mVar i) :=
 fun pn Φ=>Zn (Qi4 (X:=xat X ca pn Φ) hN hv hd hcd) fun σ H Q hQ=>by
  obtain⟨σ3,g,μ,R,p⟩:=hQ
  unfold mVar at p
  cases e:σ3[i]? with
  | none=>rw [e] at p; exact p.elim
  | some o =>
   cases o with
   | none=>rw [e] at p; exact p.elim
   | some d =>
    rw [e] at p
    obtain⟨v,h1,h2⟩:=R.st i d e
    exact⟨v,h1,p v H μ .refl R.g h2⟩
theorem Qff {v:V} {d:D} (h:∀ pn Φ,PE (xat X ca pn Φ) e (tC v)) (hd:∀ K μ H,Den K μ H v d):PE3 ca X e (mLit d) :=
 fun pn Φ=>Zn (h pn Φ) fun _ H _ ⟨_,_,μ,R,p⟩=>p v H μ .refl R.g (hd _ _ _)
theorem Qi {i:Int} {j:Nat}:PE3 ca X (.Constant (.int i) j pos) (mLit (.int i)):=Qff (fun _ _=>Qi5) fun _ _ _=>.int i
theorem Zh {x:Str} {j:Nat}:PE3 ca X (.Constant (.str x) j pos) (mLit (.str x)):=Qff (fun _ _=>Qi7) fun _ _ _=>.str x
theorem r_bl {x:Bool} {j:Nat}:PE3 ca X (.Constant (.bool x) j pos) (mLit (.bl x)):=Qff (fun _ _=>Qkz) fun _ _ _=>.bl x
theorem QcD {j:Nat}:PE3 ca X (.Constant .none j pos) (mLit .non):=Qff (fun _ _=>Qi6) fun _ _ _=>.non
theorem Qho {x:Str} {v:V} {u:Value} {d:D} (hm:X.mg x=some u) (r:RelV v u) (hd':∀ K μ H,Den K μ H v d) (hg:Gl X x:=by rfl) (hd:(x == ("__debug__" : Str))=false:=by decide):PE3 ca X (.Name x pos) (mLit d) :=
 Qff (fun pn Φ=>QeS (X:=xat X ca pn Φ) hg hm r hd) hd'
noncomputable def Je (K:PySem.W.Frag) (ca:Nat->Addr) (r:R2) (f:D->D->G->Res D):Prop :=
 ∀(Φ:XS) (σ:L2.St) (H:Hp) (μ:List Addr) (g:G) (x y:V) (dx dy:D) (Q:VK),GRep K ca μ H g->Den K μ H x dx->Den K μ H y dy->Post K ca Φ σ Q H μ (f dx dy g)->r x y H Q
theorem QdH {K:PySem.W.Frag} {Φ:XS} {r:R2} {f:D->D->G->Res D} (hp:Je K ca r f) (σ:L2.St) (H:Hp) (Q:VK) (h:up K ca Φ (mOp2 f ma mb) σ H Q):tOp r (up K ca Φ ma) (up K ca Φ mb) σ H Q:=by
 obtain⟨σ3,g,μ,R,p⟩:=h
 refine Zr (Qab R p) fun x H1 ⟨dx,g1,μ1,e1,R1,q1,p1⟩=>?_
 refine Zr (Qab R1 p1) fun y H2 ⟨dy,g2,μ2,e2,R2,q2,p2⟩=>?_
 exact hp Φ σ H2 μ2 g2 x y dx dy Q R2.g (q1.mono e2) q2 p2
theorem Qfg {op:Operator} {r:R2} {f:D->D->G->Res D} (ho:∀ pn Φ,OpR (xat X ca pn Φ) (binaryOp op) r) (hp:Je X.K ca r f) (ha:PE3 ca X a ma) (hb:PE3 ca X b mb):PE3 ca X (.BinOp a op b pos) (mOp2 f ma mb) :=
 fun pn Φ=>Zn (QkI (ho pn Φ) (ha pn Φ) (hb pn Φ)) (QdH hp)
theorem Qgw {op:CmpOp} {r:R2} {f:D->D->G->Res D} (ho:∀ pn Φ,OpR (xat X ca pn Φ) (compareOp op) r) (hp:Je X.K ca r f) (ha:PE3 ca X a ma) (hb:PE3 ca X b mb) (hm:behindInMarks op b=false):PE3 ca X (.Compare a [op] [b] pos) (mOp2 f ma mb) :=
 fun pn Φ=>Zn (QhT (ho pn Φ) (ha pn Φ) (hb pn Φ) hm) (QdH hp)
theorem r_ix {r:R2} {f:D->D->G->Res D} (ho:∀ pn Φ,IxR (xat X ca pn Φ) r) (hp:Je X.K ca r f) (ha:PE3 ca X a ma) (hb:PE3 ca X b mb) (hs:QbH b:=by exact fun _ _=>rfl):PE3 ca X (.Subscript a b pos) (mOp2 f ma mb) :=
 fun pn Φ=>Zn (QkP (ho pn Φ) (ha pn Φ) (hb pn Φ) hs) (QdH hp)
theorem r_un {op:UnaryOp} {r:V->Hp->VK->Prop} {f:D->G->Res D} (ho:∀ pn Φ,UnR (xat X ca pn Φ) (unaryOp op) r)
  (hp:∀(Φ:XS) (σ:L2.St) (H:Hp) (μ:List Addr) (g:G) (x:V) (dx:D) (Q:VK),GRep X.K ca μ H g->Den X.K μ H x dx->Post X.K ca Φ σ Q H μ (f dx g)->r x H Q) (ha:PE3 ca X a ma):PE3 ca X (.UnaryOp op a pos) (mOp1 f ma) :=
 fun pn Φ=>Zn (QkJ (ho pn Φ) (ha pn Φ)) fun σ H Q ⟨σ3,g,μ,R,p⟩=>Zr (Qab R p) fun x H1 ⟨dx,g1,μ1,e1,R1,q1,p1⟩=>hp Φ σ H1 μ1 g1 x dx Q R1.g q1 p1
theorem Qk:PA3 ca X [] mNil:=fun pn Φ=>Qfe (Qbi (X:=xat X ca pn Φ)) fun _ H _ ⟨_,_,μ,R,p⟩=>p [] H μ .refl R.g .nil
theorem Jw (ha:PE3 ca X e me) (hr:PA3 ca X es mr) (hs:starEach (e::es) X.env=(false,eval e X.env)::starEach es X.env:=by rfl):PA3 ca X (e::es) (Qa me mr) :=
 fun pn Φ=>Qfe (Z3 (X:=xat X ca pn Φ) (ha pn Φ) (hr pn Φ) hs) fun σ H Q ⟨σ3,g,μ,R,p⟩=>Zr (QkR R p) fun x H1 ⟨d,g1,μ1,e1,R1,q1,p1⟩ =>
  Qah (QjF R1 p1) fun xs H2 ⟨ds,g2,μ2,e2,R2,q2,p2⟩=>p2 (x::xs) H2 μ2 .refl R2.g (.cons (q1.mono e2) q2)
theorem ZB (ha:PE3 ca X a ma) (he:∀ whole,isTrue a X.env whole=(do let v ← whole; standAt a.pos; holding [v] (truthy v)):=by intro _; rfl):PT3 ca X a (Qp ma) :=
 fun pn Φ=>Qc8 (Qi8 (X:=xat X ca pn Φ) (ha pn Φ) he) fun σ H Q ⟨σ3,g,μ,R,p⟩=>Zr (QjD R p) fun x H1 hQ=>by
  obtain⟨d,g1,μ1,e1,R1,q1,p1⟩:=hQ
  cases q1 with
  | bl b=>exact⟨b,rfl,p1 H1 μ1 .refl R1.g⟩
  | _=>exact p1.elim
theorem Jk {op:CmpOp} {r:R2} {f:D->D->G->Res D} (ho:∀ pn Φ,OpR (xat X ca pn Φ) (compareOp op) r) (hp:Je X.K ca r f) (ha:PE3 ca X a ma) (hb:PE3 ca X b mb) (hm:behindInMarks op b=false):PT3 ca X (.Compare a [op] [b] pos) (Qp (mOp2 f ma mb)) :=
 fun pn Φ=>Qc8 (QhU (ho pn Φ) (ha pn Φ) (hb pn Φ) hm) fun σ H Q hQ=>by
  obtain⟨σ3,g,μ,R,p⟩:=hQ
  have q:up X.K ca Φ (mOp2 f ma mb) σ H fun x H'=>∃ k,x=.bl k∧Q k H':=Zr (QjD R p) fun x H1 hQ=>by
   obtain⟨d,g1,μ1,e1,R1,q1,p1⟩:=hQ
   cases q1 with
   | bl b=>exact⟨b,rfl,p1 H1 μ1 .refl R1.g⟩
   | _=>exact p1.elim
  exact QdH hp σ H _ q
theorem Z4 (ha:PT3 ca X a ta):PT3 ca X (.UnaryOp .Not a pos) (ZG ta) :=
 fun pn Φ=>Qc8 (Qjb (X:=xat X ca pn Φ) (ha pn Φ)) fun σ H Q ⟨σ3,g,μ,R,p⟩=>Qag (Qfb R p) fun b H1 ⟨g1,μ1,e1,R1,p1⟩=>p1 H1 μ1 .refl R1.g
theorem Qh5 (ha:PT3 ca X a ta):PW3 ca X (.BoolOp .And [a] pos) ta:=fun pn Φ=>QhM (X:=xat X ca pn Φ) (ha pn Φ)
theorem QaA (ha:PT3 ca X a ta):PW3 ca X (.BoolOp .Or [a] pos) ta:=fun pn Φ=>Qi9 (X:=xat X ca pn Φ) (ha pn Φ)
theorem QjG (ha:PT3 ca X a ta) (hb:PW3 ca X (.BoolOp .And (b::rest) pos) tb):PW3 ca X (.BoolOp .And (a::b::rest) pos) (Qfa ta tb) :=
 fun pn Φ=>Qfd (Qja (X:=xat X ca pn Φ) (ha pn Φ) (hb pn Φ)) fun σ H Q ⟨σ3,g,μ,R,p⟩=>Qag (Qfb R p) fun b H1 hQ=>by
  obtain⟨g1,μ1,e1,R1,p1⟩:=hQ
  cases b with
  | true=>rw [if_pos rfl] at p1 ⊢; exact⟨σ3,g1,μ1,R1,p1⟩
  | false=>rw [if_neg Bool.false_ne_true] at p1 ⊢; exact p1 H1 μ1 .refl R1.g
theorem QcE (ha:PT3 ca X a ta) (hb:PW3 ca X (.BoolOp .Or (b::rest) pos) tb):PW3 ca X (.BoolOp .Or (a::b::rest) pos) (mOrT ta tb) :=
 fun pn Φ=>Qfd (QkA (X:=xat X ca pn Φ) (ha pn Φ) (hb pn Φ)) fun σ H Q ⟨σ3,g,μ,R,p⟩=>Qag (Qfb R p) fun b H1 hQ=>by
  obtain⟨g1,μ1,e1,R1,p1⟩:=hQ
  cases b with
  | true=>rw [if_pos rfl] at p1 ⊢; exact p1 H1 μ1 .refl R1.g
  | false=>rw [if_neg Bool.false_ne_true] at p1 ⊢; exact⟨σ3,g1,μ1,R1,p1⟩
theorem r_w (h:PW3 ca X e ta):PT3 ca X e ta:=fun pn Φ=>(h pn Φ).pt
theorem QjH (ha:PE3 ca X a ma):PE3 ca X (.UnaryOp .Not a pos) (mNot ma) :=
 fun pn Φ=>Zn (Qje (X:=xat X ca pn Φ) (ha pn Φ)) fun σ H Q ⟨σ3,g,μ,R,p⟩=>Zr (Qab R p) fun x H1 hQ=>by
  obtain⟨d,g1,μ1,e1,R1,q1,p1⟩:=hQ
  cases q1 with
  | bl b=>exact⟨b,rfl,p1 _ H1 μ1 .refl R1.g (.bl _)⟩
  | _=>exact p1.elim
theorem QaB {op:BoolOp} (ha:PE3 ca X a ma):PE3 ca X (.BoolOp op [a] pos) ma:=fun pn Φ=>Qjc (X:=xat X ca pn Φ) (ha pn Φ)
theorem Jl (ha:PE3 ca X a ma) (hb:PE3 ca X (.BoolOp .And (b::rest) pos) mb):PE3 ca X (.BoolOp .And (a::b::rest) pos) (mAnd ma mb) :=
 fun pn Φ=>Zn (Qjd (X:=xat X ca pn Φ) (ha pn Φ) (hb pn Φ)) fun σ H Q ⟨σ3,g,μ,R,p⟩=>Zr (Qab R p) fun x H1 hQ=>by
  obtain⟨d,g1,μ1,e1,R1,q1,p1⟩:=hQ
  cases q1 with
  | bl b =>
   refine⟨b,rfl,?_⟩
   cases b with
   | true=>rw [if_pos rfl]; exact⟨σ3,g1,μ1,R1,p1⟩
   | false=>rw [if_neg Bool.false_ne_true]; exact p1 _ H1 μ1 .refl R1.g (.bl _)
  | _=>exact p1.elim
theorem QjI (hc:PT3 ca X c tc) (ha:PE3 ca X a ma) (hb:PE3 ca X b mb):PE3 ca X (.IfExp c a b pos) (mIfE tc ma mb) :=
 fun pn Φ=>Zn (Qgn (X:=xat X ca pn Φ) (hc pn Φ) (ha pn Φ) (hb pn Φ)) fun σ H Q ⟨σ3,g,μ,R,p⟩=>Qag (QjE R p) fun b H1 hQ=>by
  obtain⟨g1,μ1,e1,R1,p1⟩:=hQ
  cases b with
  | true=>rw [if_pos rfl] at p1 ⊢; exact⟨σ3,g1,μ1,R1,p1⟩
  | false=>rw [if_neg Bool.false_ne_true] at p1 ⊢; exact⟨σ3,g1,μ1,R1,p1⟩
theorem Z5:SZ≤sizeLine:=by rw [sizeLine_eq]; decide
theorem Dens.sz {K:PySem.W.Frag} {μ:List Addr} {H:Hp} {vs:List V} {ds:List D} (h:Dens K μ H vs ds) (z:ds.length≤SZ):vs.length≤sizeLine:=by rw [h.length]; exact Nat.le_trans z Z5
theorem Q3 {k:Nat} (h:PA3 ca X es mr):PE3 ca X (.Tuple es k pos) (mOpA pTup mr) :=
 fun pn Φ=>Zn (Qhl (X:=xat X ca pn Φ) (h pn Φ)) fun σ H Q ⟨σ3,g,μ,R,p⟩=>Qah (Qfc R p) fun xs H1 hQ=>by
  obtain⟨ds,g1,μ1,e1,R1,q1,p1⟩:=hQ
  unfold pTup at p1
  by_cases z:ds.length≤SZ
  ·rw [if_pos z] at p1
   exact⟨q1.sz z,fun t ht=>p1 _ _ μ1 (QU ht) (R1.g.new ht) (.tup (.of Qt) (q1.mono (QU ht)))⟩
  ·rw [if_neg z] at p1; exact p1.elim
theorem ZR (h:PA3 ca X es mr):PE3 ca X (.List es pos) (mOpA newL mr) :=
 fun pn Φ=>Zn (Qjq (X:=xat X ca pn Φ) (h pn Φ)) fun σ H Q ⟨σ3,g,μ,R,p⟩=>Qah (Qfc R p) fun xs H1 hQ=>by
  obtain⟨ds,g1,μ1,e1,R1,q1,p1⟩:=hQ
  unfold newL at p1
  by_cases z:ds.length≤SZ
  ·rw [if_pos z] at p1
   refine⟨q1.sz z,fun t ht=>p1 _ _ (μ1++[t]) (QD ht) (R1.g.push ht ⟨xs,Qt,q1.mono (QD ht)⟩) (.ref ?_)⟩
   rw [← R1.g.len]; simp
  ·rw [if_neg z] at p1; exact p1.elim
end
end L3
end
section
namespace L3
open PySem PySem.Spec PyProof.Rows L2
section
variable {X:Cx} {ca:Nat->Addr} {pins:List (Addr×Obj)} {σ:L2.St} {H:Hp} {s:Shared} {a:Addr} {x:Xc} {E:Value->Shared->Prop}
theorem Qhp {pn:List (Addr×Obj)} {Φ:XS} (I:Inv (xat X ca pn Φ) pins σ H s):Inv (xon X pn) pins σ H s:=(Inv.wish I fun _ _=>False)
theorem QdI {b:Addr} {H':Hp} (I:Inv X pins σ H s) (hb:s.heap.get? b=none) (hn:H' b=none):FpW X pins H' b:=by
 refine⟨hn,fun z=>?_,fun z=>?_,?_,fun x c e z=>?_,fun p hp z=>?_⟩
 ·obtain⟨m,⟨o,_,_,ho,_⟩,_⟩:=I.loc
  rw [z,ho] at hb; cases hb
 ·obtain⟨_,o,ho,_⟩:=I.funs.mem z
  rw [ho] at hb; cases hb
 ·by_cases hx:b∈X.ex
  ·exact .inl hx
  ·refine .inr ?_
   cases q:X.s₀.heap.get? b with
   | none=>rfl
   | some o =>
    obtain⟨o',e'⟩:=I.base.there b o q hx
    rw [e'] at hb; cases hb
 ·obtain⟨v,o,ho,_⟩:=I.cell x c e
  rw [z,hb] at ho; cases ho
 ·rw [← z,(I.pin p hp).1] at hb; cases hb
theorem QcF {H':Hp} {h':Heap} {g':Array GenState} {t':Nat} {d':Drawn} {ch:List Addr} (I:Inv X pins σ H s)
  (hch:∀ b∈ch,(b∈X.ex∨X.s₀.heap.get? b=none)∧b≠X.env.locals∧(∀ x c,X.env.cells.lookup x=some c->c≠b)∧∀ p∈X.pn++pins,p.1≠b)
  (keep:∀ b o,b≠X.env.locals->b∉X.fs->b∉ch->s.heap.get? b=some o->H b=none->h'.get? b=some o)
  (slot:∀ b o,b≠X.env.locals->b∈X.fs->b∉ch->s.heap.get? b=some o->H b=none->∃ sl,h'.get? b=some { o with slots:=sl }) (free:∀ b o,b∉ch->s.heap.get? b=some o->H b=none->H' b=none)
  (there:∀ b o,b∉ch->s.heap.get? b=some o->∃ o',h'.get? b=some o')
  (tups:∀ b xs,H b=some (.tup xs)->H' b=some (.tup xs)) (frzs:∀ b o u,H b=some (.frz o u)->H' b=some (.frz o u)) (tbls:∀ b ps,H b=some (.tbl ps)->∃ more,H' b=some (.tbl (ps++more)))
  (ns:∀ m,s.heap.Ns X.env.locals m->h'.Ns X.env.locals m) (hok:HOk X.prog X.w H' h') (hg:AllBare g') :
  Inv X pins σ H' { s with heap:=h',gens:=g',drawn:=d',toks:=t' }:=by
 have neL:∀ b o,X.s₀.heap.get? b=some o->b≠X.env.locals:=fun b o e=>Nat.ne_of_lt (Nat.lt_of_lt_of_le (Heap.lt_size e) I.ok.above)
 have neC:∀ b o,X.s₀.heap.get? b=some o->b∉X.ex->b∉ch:=fun b o e hx hb=>by
  rcases(hch b hb).1 with z | z
  ·exact hx z
  ·rw [z] at e; cases e
 have cellK:∀ x c,X.env.cells.lookup x=some c->∀ v,s.heap.IsCell c v->h'.IsCell c v:=fun x c e v hQ=>by
  obtain⟨o,ho,hd⟩:=hQ
  have nch:c∉ch:=fun z=>(hch c z).2.2.1 x c e rfl
  by_cases hc:c∈X.fs
  ·obtain⟨sl,q⟩:=slot c o (I.cne x c e) hc nch ho (I.freeC x c e)
   exact⟨_,q,hd⟩
  ·exact⟨o,keep c o (I.cne x c e) hc nch ho (I.freeC x c e),hd⟩
 refine⟨I.ok,I.os,hg,⟨fun b o e n hb hx=>?_,fun b o e n hb hx=>?_,fun b o e n hx=>?_,fun b o e hx=>?_,fun b xs e=>tups b xs (I.base.tups b xs e),fun b o xs e=>frzs b o xs (I.base.frzs b o xs e),fun b ps e=>?_⟩,?_,fun x c e=>?_,?_,fun x c e=>?_,fun p hp=>?_,hok,I.len⟩
 ·exact keep b o (neL b o e) hb (neC b o e hx) (I.base.keep b o e n hb hx) (I.base.free b o e n hx)
 ·obtain⟨sl,e1⟩:=I.base.slot b o e n hb hx
  obtain⟨sl',e2⟩:=slot b _ (neL b o e) hb (neC b o e hx) e1 (I.base.free b o e n hx)
  exact⟨sl',e2⟩
 ·obtain⟨o',e1⟩:=I.base.there b o e hx
  exact free b o' (neC b o e hx) e1 (I.base.free b o e n hx)
 ·obtain⟨o',e1⟩:=I.base.there b o e hx
  exact there b o' (neC b o e hx) e1
 ·obtain⟨m1,e1⟩:=I.base.tbls b ps e
  obtain⟨m2,e2⟩:=tbls b _ e1
  exact⟨m1++m2,by rw [e2,Array.append_assoc]⟩
 ·obtain⟨m,hn,hl⟩:=I.loc
  refine⟨m,ns m hn,fun i x v e1 e2 e3=>?_⟩
  obtain⟨u,r,l⟩:=hl i x v e1 e2 e3
  refine⟨u,r,?_⟩
  rcases l with l | ⟨k,c,e,z⟩
  ·exact .inl l
  ·exact .inr ⟨k,c,e,cellK x c e _ z⟩
 ·obtain⟨v,z⟩:=I.cell x c e
  exact⟨v,cellK x c e v z⟩
 ·obtain⟨m,⟨o,_,_,ho,_⟩,_⟩:=I.loc
  exact free _ o (fun z=>(hch _ z).2.1 rfl) ho I.free
 ·obtain⟨v,o,ho,hd⟩:=I.cell x c e
  exact free c o (fun z=>(hch c z).2.2.1 x c e rfl) ho (I.freeC x c e)
 ·obtain⟨e,n,ne,nf,d⟩:=I.pin p hp
  have nch:p.1∉ch:=fun z=>(hch p.1 z).2.2.2 p hp rfl
  exact⟨keep p.1 p.2 ne nf nch e n,free p.1 p.2 nch e n,ne,nf,d⟩
theorem QdJ {ch:List Addr} {h':Heap} (I:Inv X pins σ H s) (hch:∀ b∈ch,FpW X pins H b) (keep:∀ b o,b∉ch->b≠X.env.locals->b∉X.fs->s.heap.get? b=some o->h'.get? b=some o)
  (slot:∀ b o,b∉ch->s.heap.get? b=some o->∃ sl,h'.get? b=some { o with slots:=sl }):Inv X pins σ H { s with heap:=h' }:=by
 have nl:X.env.locals∉ch:=fun z=>(hch _ z).2.1 rfl
 have nt:∀ b v,H b=some v->b∉ch:=fun b v e z=>by rw [(hch b z).1] at e; cases e
 have nf:∀ b v,H b=some v->b∉X.fs:=fun b v e z=>by
  obtain⟨_,o,ho,_⟩:=I.ok.funs.mem z
  have:=I.base.free b o ho (I.ok.frf b z) fun q=>I.ok.exfs b q z
  rw [this] at e; cases e
 have nL:∀ b v,H b=some v->b≠X.env.locals:=fun b v e z=>by rw [z,I.free] at e; cases e
 refine QcF (h':=h') (H':=H) (g':=s.gens) (t':=s.toks) (d':=s.drawn) (ch:=ch) I (fun b hb=>⟨(hch b hb).2.2.2.1,(hch b hb).2.1,(hch b hb).2.2.2.2.1,(hch b hb).2.2.2.2.2⟩) (fun b o h1 h2 h3 e _=>keep b o h3 h1 h2 e) (fun b o _ _ h3 e _=>slot b o h3 e)
  (fun b o _ _ n=>n) (fun b o h e=>let ⟨sl,q⟩:=slot b o h e; ⟨_,q⟩) (fun b v e=>e) (fun b o v e=>e) (fun b ps e=>⟨#[],by rw [e]; simp⟩) (fun m hm=>?_) (fun b v e=>?_) I.bare
 ·obtain⟨o,es,ep,ho,rr⟩:=hm
  obtain⟨sl,q⟩:=slot _ o nl ho
  exact⟨_,es,ep,q,rr⟩
 ·refine(I.hok b v e).stay (fun c' v' hc' q=>?_) (fun c' q=>q) fun c' xs' q=>q
  rcases hc' with rfl | hc'
  ·exact keep _ _ (nt _ _ e) (nL _ _ e) (nf _ _ e) q
  ·exact keep _ _ (nt _ _ hc') (nL _ _ hc') (nf _ _ hc') q
noncomputable def FlN (X:Cx) (ca:Nat->Addr) (a:Addr) (x:Xc) (H:Hp) (h:Heap):Prop :=
 FpW X [] H a∧x.2=none∧∃ oe vs T oT ts,h.get? a=some oe∧XOb ca x oe∧oe.data=.fields vs∧vs[1]?=some (.ref T)∧T≠a∧FpW X [] H T∧h.get? T=some oT∧oT.data=.fields ts∧ts[3]?=some (rawInt X.env.locals)
noncomputable def FlT (X:Cx) (ca:Nat->Addr) (a:Addr) (x:Xc) (H:Hp) (h:Heap):Prop :=
 FpW X [] H a∧x.2=none∧∃ oe vs T oT ts,h.get? a=some oe∧XOb ca x oe∧oe.data=.fields vs∧vs[1]?=some (.ref T)∧T≠a∧FpW X [] H T∧h.get? T=some oT∧oT.data=.fields ts∧3<ts.size
theorem FlN.t {h:Heap} (f:FlN X ca a x H h):FlT X ca a x H h:=by
 obtain⟨f1,f2,oe,vs,T,oT,ts,e1,e2,e3,e4,e5,e6,e7,e8,e9⟩:=f
 exact⟨f1,f2,oe,vs,T,oT,ts,e1,e2,e3,e4,e5,e6,e7,e8,(Array.getElem?_eq_some_iff.mp e9).1⟩
theorem FlN.fl {h:Heap} (f:FlN X ca a x H h):Fl X ca a x H h:=by
 obtain⟨f1,f2,oe,vs,T,oT,ts,e1,e2,e3,e4,e5,e6,e7,e8,e9⟩:=f
 exact⟨f1,f2,oe,vs,e1,e2,e3,(Array.getElem?_eq_some_iff.mp e4).1,.inr ⟨T,oT,ts,e4,e5,e6,e7,e8,(Array.getElem?_eq_some_iff.mp e9).1,.inr e9⟩⟩
theorem Qbk {h:Heap} {b:Addr} {o:Obj} {ts:Array Value} (i:Nat) (v:Value) (e:h.get? b=some o) (d:o.data=.fields ts) :
  (h.update b (Obj.mapFields (·.setIfInBounds i v))).get? b=some (o.mapFields (·.setIfInBounds i v))∧(o.mapFields (·.setIfInBounds i v)).data=.fields (ts.setIfInBounds i v)∧(o.mapFields (·.setIfInBounds i v)).cls=o.cls :=
 ⟨Heap.get?_update_self _ e (Obj.isFreed_of_fields (Obj.data_mapFields d _)),Obj.data_mapFields d _,Obj.cls_mapFields _ _⟩
theorem QdK {base:Heap} {env:Env} {outer:List Env} {L:Addr} {oe:Obj} {vs:Array Value} {head:Value} {hn:Bool} {M:Model} {A:Around} {Q:Unit->Shared->Prop} (hfr:A.frames=some (env::outer)) (hl:s.heap.FunFrames base (env::outer)) (hf:env.frame=some L)
  (he:s.heap.get? a=some oe) (hd:oe.data=.fields vs) (hsz:1<vs.size) (ha:a∉(env::outer).filterMap (·.frame))
  (k:∀ h₁ (cells:Array Value),Heap.SlotsOnly ((env::outer).filterMap (·.frame)) s.heap h₁->cells[3]?=some (rawInt L) ->
   Q () { s with heap:=(h₁.push { cls:=.type "traceback",dict:=none,data:=.fields cells }).update a (Obj.mapFields (·.setIfInBounds 1 (.ref h₁.objs.size))) }) :
  wpAny M A (do let fv ← frameOf env; let pl ← entryPlaceOf L hn; let b ← EntryCells.newEntry head fv .none (rawInt L) .none pl; setField (.ref a) 1 b) Q E s:=by
 refine wpAny_bind (wpAny_frameOf_fun hfr hl hf fun h₁ so=>wpAny_bind (wpAny_entryPlaceOf fun pl hpl=>?_))
 unfold EntryCells.newEntry newFields
 refine wpAny_bind (wpAny_newObj_type ?_ (hpl.sizeOk5 _ _ _ _ _))
 have e1:h₁.get? a=some oe:=(so.2.1 a ha).trans he
 refine wpAny_setField (Heap.get?_push_of_some _ e1) hd hsz (k h₁ _ so ?_)
 first
  | (simp; done)
  | (rcases hpl with rfl | ⟨_,_,_,_,_,_,_,rfl⟩ <;> simp)
theorem Qc9 {M:Model} {Q:Unit->Shared->Prop} (I:Inv X [] σ H s) (hk:X.stack=X.env::X.outer) (hf:X.env.frame=some X.env.locals) (fl:Fl X ca a x H s.heap)
  (k:∀ h',Inv X [] σ H { s with heap:=h' }->FlN X ca a x H h'->Q () { s with heap:=h' }):wpAny M X.A (noteFrame (.ref a) X.env) Q E s:=by
 obtain⟨fp,ln,oe,vs,he,hc,hd,hsz,hv⟩:=fl
 have hfr:X.A.frames=some (X.env::X.outer):=by rw [← hk]; exact I.ok.frames
 have hst:s.heap.FunFrames X.base (X.env::X.outer):=by rw [← hk]; exact I.stack
 have hfs:(X.env::X.outer).filterMap (·.frame)=X.env.locals::X.fs:=by rw [List.filterMap_cons,hf]; rfl
 have ha:a∉(X.env::X.outer).filterMap (·.frame):=by
  rw [hfs]
  intro z
  rcases List.mem_cons.mp z with z | z
  ·exact fp.2.1 z
  ·exact fp.2.2.1 z
 -- an entry is laid over a heap that differs from s at ch alone
 have fin:∀(h0 h₁:Heap) (cells:Array Value) (ch:List Addr),(∀ b∈ch,FpW X [] H b)->(∀ b o,b∉ch->s.heap.get? b=some o->h0.get? b=some o)->h0.objs.size=s.heap.objs.size->h0.get? a=some oe ->
   Heap.SlotsOnly ((X.env::X.outer).filterMap (·.frame)) h0 h₁->cells[3]?=some (rawInt X.env.locals) ->
   Q () { s with heap:=(h₁.push { cls:=.type "traceback",dict:=none,data:=.fields cells }).update a (Obj.mapFields (·.setIfInBounds 1 (.ref h₁.objs.size))) }:=by
  intro h0 h₁ cells ch hch hk0 hz he0 so hcl
  have e1:h₁.get? a=some oe:=(so.2.1 a ha).trans he0
  obtain⟨u1,u2,u3⟩:=Qbk 1 (.ref h₁.objs.size) (Heap.get?_push_of_some { cls:=.type "traceback",dict:=none,data:=.fields cells } e1) hd
  have hTa:h₁.objs.size≠a:=Nat.ne_of_gt (Heap.lt_size e1)
  have oth:∀ b o,b≠a->h₁.get? b=some o->((h₁.push { cls:=.type "traceback",dict:=none,data:=.fields cells }).update a (Obj.mapFields (·.setIfInBounds 1 (.ref h₁.objs.size)))).get? b=some o:=fun b o hb e =>
   (Heap.get?_update_other _ _ (Ne.symm hb)).trans (Heap.get?_push_of_some _ e)
  refine k _ (QdJ (ch:=a::ch) I (fun b hb=>?_) (fun b o h1 h2 h3 e=>?_) fun b o h1 e=>?_) ⟨fp,ln,_,_,h₁.objs.size,_,cells,u1,hc.map _,u2,by simp [hsz],hTa,?_,(Heap.get?_update_other _ _ (Ne.symm hTa)).trans (Heap.get?_push_size _ rfl),rfl,hcl⟩
  ·rcases List.mem_cons.mp hb with e | e
   ·rw [e]; exact fp
   ·exact hch b e
  ·refine oth b o (fun z=>h1 (by rw [z]; exact List.mem_cons_self)) ?_
   rw [so.2.1 b (by rw [hfs]; intro z; rcases List.mem_cons.mp z with z | z; (· exact h2 z); exact h3 z)]
   exact hk0 b o (fun z=>h1 (List.mem_cons_of_mem _ z)) e
  ·obtain⟨sl,q⟩:=so.2.2 b o (hk0 b o (fun z=>h1 (List.mem_cons_of_mem _ z)) e)
   exact⟨sl,oth b _ (fun z=>h1 (by rw [z]; exact List.mem_cons_self)) q⟩
  ·refine QdI I (Heap.get?_none_of_le ?_) (I.hok.fresh ?_) <;> rw [so.1,hz] <;> exact Nat.le_refl _
 unfold noteFrame
 simp only [hf]
 rcases hv with hv | ⟨T,oT,ts,hv,hTa,fT,hT,hdT,hs3,h3⟩
 ·refine wpAny_bind (wpAny_field he hd hv ?_)
  rw [if_neg (by decide)]
  exact QdK hfr hst hf he hd hsz ha fun h₁ cells so hcl=>fin s.heap h₁ cells [] (by simp) (fun _ _ _ e=>e) rfl he so hcl
 ·refine wpAny_bind (wpAny_field he hd hv ?_)
  rw [if_pos (show(Value.ref T != Value.none)=true from by simp)]
  rcases h3 with h3 | h3
  ·refine wpAny_bind (wpAny_field hT hdT h3 ?_)
   rw [if_neg (show ¬ ((Value.none == rawInt X.env.locals)=true) from by simp [rawInt])]
   refine wpAny_bind (wpAny_setField hT hdT hs3 ?_)
   have oth:∀ b o,b≠T->s.heap.get? b=some o->(s.heap.update T (Obj.mapFields (·.setIfInBounds 3 Value.none))).get? b=some o:=fun b o hb e=>(Heap.get?_update_other _ _ (Ne.symm hb)).trans e
   have kp:∀ b o,s.heap.get? b=some o->(∀ vs,o.data≠.fields vs)->(s.heap.update T (Obj.mapFields (·.setIfInBounds 3 Value.none))).get? b=some o:=fun b o e n=>oth b o (fun z=>by rw [z,hT] at e; cases e; exact n _ hdT) e
   refine QdK (s:={ s with heap:=s.heap.update T (Obj.mapFields (·.setIfInBounds 3 Value.none)) }) hfr (hst.of_keeps fun b o e n=>⟨o,kp b o e n,rfl⟩) hf (oth a oe (Ne.symm hTa) he) hd hsz ha fun h₁ cells so hcl=>?_
   exact fin _ h₁ cells [T] (fun b hb=>by rw [List.mem_singleton.mp hb]; exact fT) (fun b o hb e=>oth b o (fun z=>hb (by simp [z])) e) (Heap.size_after_update ..) (oth a oe (Ne.symm hTa) he) so hcl
  ·refine wpAny_bind (wpAny_field hT hdT h3 ?_)
   rw [if_pos (show(rawInt X.env.locals == rawInt X.env.locals)=true from by simp)]
   exact wpAny_pure (k s.heap I ⟨fp,ln,oe,vs,T,oT,ts,he,hc,hd,hv,hTa,fT,hT,hdT,h3⟩)
theorem YL {M:Model} {A:Around} {Q:Unit->Shared->Prop} {fo:Option Addr} (I:Inv X [] σ H s) (fl:FlT X ca a x H s.heap) (k:∀ h' T oT ts oe vs,Inv X [] σ H { s with heap:=h' }->h'.get? a=some oe->XOb ca x oe->oe.data=.fields vs->vs[1]?=some (.ref T)->T≠a->FpW X [] H T ->
      h'.get? T=some oT->oT.data=.fields ts->3<ts.size->ts[3]?=some (fo.elim Value.none fun f=>rawInt f)->Q () { s with heap:=h' }):wpAny M A (setFlight (.ref a) fo) Q E s:=by
  obtain⟨fp,ln,oe,vs,T,oT,ts,he,hc,hd,hv,hTa,fT,hT,hdT,hs3⟩:=fl
  unfold setFlight
  refine wpAny_bind (wpAny_field he hd hv ?_)
  rw [if_pos (show(Value.ref T != Value.none)=true from by simp)]
  have oth:∀ b o,b≠T->s.heap.get? b=some o->(s.heap.update T (Obj.mapFields (·.setIfInBounds 3 (fo.elim Value.none fun f=>rawInt f)))).get? b=some o:=fun b o hb e=>(Heap.get?_update_other _ _ (Ne.symm hb)).trans e
  obtain⟨u1,u2,u3⟩:=Qbk 3 (fo.elim Value.none fun f=>rawInt f) hT hdT
  refine wpAny_setField hT hdT hs3 (k _ T _ _ oe vs (QdJ (ch:=[T]) I (fun b hb=>by rw [List.mem_singleton.mp hb]; exact fT) (fun b o h1 _ _ e=>oth b o (fun z=>h1 (by simp [z])) e) fun b o h1 e=>⟨o.slots,oth b o (fun z=>h1 (by simp [z])) e⟩)
    (oth a oe (Ne.symm hTa) he) hc hd hv hTa fT u1 u2 (by simpa using hs3) (by simp [hs3]))
theorem Qhq (hk:X.stack=X.env::X.outer) (hf:X.env.frame=some X.env.locals) (pn:List (Addr×Obj)) (Φ:XS):PassesOwn (model X.prog X.w) X.A X.env (xat X ca pn Φ).xe:=by
 rintro v s ⟨a,x,σ,H,rfl,I,fl,q⟩
 refine Qc9 (X:=xon X pn) I hk hf fl fun h1 I1 f1=>?_
 unfold cameBackBy
 obtain⟨fp,ln,oe,vs,T,oT,ts,he,hc,hd,hv,hTa,fT,hT,hdT,h3⟩:=id f1
 refine wpAny_bind (wpAny_field he hd hv ?_)
 rw [if_neg (show ¬ ((Value.ref T == Value.none)=true) from by simp)]
 refine YL (X:=xon X pn) (fo:=X.env.frame) I1 f1.t fun h2 T oT ts oe vs I2 a1 a2 a3 a4 a5 a6 a7 a8 a9 a10=>?_
 rw [hf] at a10
 exact⟨a,x,σ,H,rfl,I2,FlN.fl ⟨fp,ln,oe,vs,T,oT,ts,a1,a2,a3,a4,a5,a6,a7,a8,a10⟩,q⟩
end
noncomputable def CXW (P:Program) (w:World) (ca:Nat->Addr):CXT:=fun outer H s E v s'=>∃(a:Addr) (x:Xc) (H':Hp),v=.ref a∧s'.os=s.os∧AllBare s'.gens∧Un (frs outer) [] H H' s.heap s'.heap∧HOk P w H' s'.heap∧x.2=none ∧
 (∃ oe vs T oT ts,s.heap.get? a=none∧H' a=none∧s'.heap.get? a=some oe∧XOb ca x oe∧oe.data=.fields vs∧vs[1]?=some (.ref T)∧T≠a∧s.heap.get? T=none∧H' T=none∧s'.heap.get? T=some oT∧oT.data=.fields ts∧ts[3]?=some .none) ∧
 E (.int x.1 0) x.2 H'
section
variable {P:Program} {w:World} {K:PySem.W.Frag} {mg:Str->Option Value} {base:Heap} {ca:Nat->Addr}
theorem Qgx {N:List Str} {qual:Str} {scope:Scope} {f:Addr} {cd:Value} {A:Around} {outer:List Env} {s s':Shared} {H:Hp} {E:XK} {v:Value}
  (h:XE (xon (cxOf (CXW P w ca) P w K mg base N qual scope f cd A outer s H E) []) ca (fun x _ H'=>E (.int x.1 0) x.2 H') v s'):(cxOf (CXW P w ca) P w K mg base N qual scope f cd A outer s H E).xe v s':=by
 obtain⟨a,x,σ,H',rfl,I,fl,q⟩:=h
 show wpAny _ _ (leaving _ (.ref a)) _ _ s'
 unfold leaving
 refine wpAny_bind (Qc9 I rfl rfl fl fun h1 I1 f1=>?_)
 obtain⟨fp,ln,_⟩:=id f1
 refine YL (fo:=none) I1 f1.t fun h2 T oT ts oe vs I2 a1 a2 a3 a4 a5 a6 a7 a8 a9 a10=>?_
 refine⟨a,x,H',rfl,I2.os,I2.bare,I2.base,I2.hok,ln,⟨oe,vs,T,oT,ts,?_,fp.1,a1,a2,a3,a4,a5,?_,a6.1,a7,a8,a10⟩,q⟩
 ·rcases fp.2.2.2.1 with z | z
  ·exact absurd (show a∈([]:List Addr) from z) (by simp)
  ·exact z
 ·rcases a6.2.2.2.1 with z | z
  ·exact absurd (show T∈([]:List Addr) from z) (by simp)
  ·exact z
end
section
variable {X:Cx} {ca:Nat->Addr} {pn:List (Addr×Obj)} {Φ:XS}
theorem Qh6 {pins:List (Addr×Obj)} {σ:L2.St} {H:Hp} {s s':Shared} {v:Value} (I:Inv (xat X ca pn Φ) pins σ H s) (h:CXW X.prog X.w ca X.stack H s (fun c l H'=>∀ x:Xc,c=.int x.1 0->l=x.2->Φ x σ H') v s'):(xat X ca pn Φ).xe v s':=by
 obtain⟨a,x,H',rfl,os,bare,un,hok,ln,⟨oe,vs,T,oT,ts,e1,e2,e3,e4,e5,e6,e7,e8,e9,e10,e11,e12⟩,q⟩:=h
 have I0:Inv (xon X pn) [] σ H s:=(Qhp I).pins_of fun p hp=>absurd hp (by simp)
 have I1:Inv (xon X pn) [] σ H' s':=Inv.call' (ch:=[]) I0 os un hok bare fun b z=>absurd z (by simp)
 refine⟨a,x,σ,H',rfl,I1,⟨QdI I0 e1 e2,ln,oe,vs,e3,e4,e5,(Array.getElem?_eq_some_iff.mp e6).1,.inr ⟨T,oT,ts,e6,e7,QdI I0 e8 e9,e10,e11,(Array.getElem?_eq_some_iff.mp e12).1,.inl e12⟩⟩,q x rfl rfl⟩
end
end L3
end
section
namespace L3
open PySem PySem.Spec PyProof.Rows L2
section
variable {X:Cx} {ca:Nat->Addr} {a b c e:Expr} {st:Stmt} {sts rest:List Stmt} {ma mb me:ME} {tc:MT} {m m':MS} {pos:Pos}
theorem QP:PSs3 ca X [] Q9:=fun pn Φ=>QdG (QeT (X:=xat X ca pn Φ)) fun _ σ H ⟨_,_,μ,R,p⟩=>p σ H μ .refl R
theorem QjJ {K:PySem.W.Frag} {Φ:XS} (E:Ends) (σ:L2.St) (H:Hp) (h:upS K ca Φ (mSeq m m') E σ H):tSeq (upS K ca Φ m) (upS K ca Φ m') E σ H:=by
 obtain⟨σ3,g,μ,R,p⟩:=h
 refine⟨σ3,g,μ,R,?_⟩
 unfold mSeq at p
 cases hm:m σ3 g with
 | nx σ1 g1 =>
  rw [hm] at p
  exact fun σ' H' μ' e' R'=>⟨σ1,g1,μ',R',PostS.go e' p⟩
 | rt d g1=>rw [hm] at p; exact p
 | bk _ _=>rw [hm] at p; exact p
 | ct _ _=>rw [hm] at p; exact p
 | raise _ _ _=>rw [hm] at p; exact p
 | stuck=>rw [hm] at p; exact p
theorem Qg (h1:PS3 ca X st m) (h2:PSs3 ca X rest m'):PSs3 ca X (st::rest) (mSeq m m'):=fun pn Φ=>QdG (Qgo (X:=xat X ca pn Φ) (h1 pn Φ) (h2 pn Φ)) QjJ
theorem Qo (h1:PS3 ca X st m):PSs3 ca X [st] m:=fun pn Φ=>QhN (X:=xat X ca pn Φ) (h1 pn Φ)
theorem ZS (he:PE3 ca X e me) (hs:swapsWith e none pos.line X.env=pure false:=by rfl):PS3 ca X (.Expr e pos) (Zw me) :=
 fun pn Φ=>YA (QhO (X:=xat X ca pn Φ) (he pn Φ) hs) fun E σ H ⟨σ3,g,μ,R,p⟩=>⟨σ3,g,μ,R,by
  unfold Zw at p
  cases hm:me σ3 g with
  | ok d g1=>rw [hm] at p; exact fun v H' μ' e' r' _=>p σ H' μ' e' (R.go e' r')
  | raise _ _=>rw [hm] at p; exact RaP.stmt R p
  | stuck=>rw [hm] at p; exact p⟩
theorem QT (he:PE3 ca X e me):PS3 ca X (.Return (some e) pos) (mRet me) :=
 fun pn Φ=>YA (Qjf (X:=xat X ca pn Φ) (he pn Φ)) fun E σ H ⟨σ3,g,μ,R,p⟩=>⟨σ3,g,μ,R,by
  unfold mRet at p
  cases hm:me σ3 g with
  | ok d g1=>rw [hm] at p; exact p
  | raise _ _=>rw [hm] at p; exact RaP.stmt R p
  | stuck=>rw [hm] at p; exact p⟩
theorem r_if {sa sb:List Stmt} (hc:PT3 ca X c tc) (ha:PSs3 ca X sa m) (hb:PSs3 ca X sb m'):PS3 ca X (.If c sa sb pos) (mIf tc m m') :=
 fun pn Φ=>YA (QkF (X:=xat X ca pn Φ) (hc pn Φ) (ha pn Φ) (hb pn Φ)) fun E σ H ⟨σ3,g,μ,R,p⟩=>⟨σ3,g,μ,R,by
  unfold mIf at p
  cases hm:tc σ3 g with
  | ok d g1 =>
   rw [hm] at p
   cases d with
   | true=>exact fun H' μ' e' r'=>by show(if true=true then _ else _); rw [if_pos rfl]; exact⟨σ3,g1,μ',R.go e' r',PostS.go e' (by simpa using p)⟩
   | false=>exact fun H' μ' e' r'=>by show(if false=true then _ else _); rw [if_neg Bool.false_ne_true]; exact⟨σ3,g1,μ',R.go e' r',PostS.go e' (by simpa using p)⟩
  | raise _ _=>rw [hm] at p; exact RaP.stmt R p
  | stuck=>rw [hm] at p; exact p⟩
noncomputable def upG (K:PySem.W.Frag) (ca:Nat->Addr) (f:MG):TG:=fun v σ H Q=>∃ σ3 g μ d σ3',Rep K ca μ σ3 g σ H∧Den K μ H v d∧f d σ3=some σ3'∧∀ σ',Rep K ca μ σ3' g σ' H->Q σ' H
noncomputable def PG3 (ca:Nat->Addr) (X:Cx) (tg:Expr) (f:MG):Prop:=∀ pn Φ,PG (xat X ca pn Φ) tg (upG X.K ca f)
theorem Qfh {X:Cx} {tg:Expr} {t t':TG} (h:PG X tg t) (i:∀ v σ H Q,t' v σ H Q->t v σ H Q):PG X tg t':=fun pins s σ H x u Q I r q=>h pins s σ H x u Q I r (i x σ H Q q)
theorem Rep.set {K:PySem.W.Frag} {μ:List Addr} {σ3:S3} {g:G} {σ:L2.St} {H:Hp} {v:V} {d:D} (R:Rep K ca μ σ3 g σ H) (h:Den K μ H v d) (i:Nat):Rep K ca μ (σ3.set i (some d)) g (σ.set i (some v)) H:=by
 refine⟨R.g,by rw [List.length_set,List.length_set,R.len],fun j x hx=>?_⟩
 by_cases e:j=i
 ·subst e
  have hl:j<σ3.length:=by
   have:=(List.getElem?_eq_some_iff.mp hx).1
   simpa using this
  rw [List.getElem?_set_self hl] at hx
  cases hx
  exact⟨v,by rw [List.getElem?_set_self (by rw [R.len]; exact hl)],h⟩
 ·rw [List.getElem?_set_ne (Ne.symm e)] at hx
  obtain⟨w,h1,h2⟩:=R.st j x hx
  exact⟨w,by rw [List.getElem?_set_ne (Ne.symm e)]; exact h1,h2⟩
theorem QG (i:Nat) {x:Str} (hN:X.N.Nodup) (hi:X.N[i]?=some x:=by rfl) (hx:Loc X.env.scope x:=by first | exact Or.inl rfl | exact Or.inr rfl)
  (hf:X.fn x=true∨X.env.scope.names.lookup x=some .local:=by first | exact .inl rfl | exact .inr rfl):PG3 ca X (.Name x pos) (gSet i) :=
 fun pn Φ=>Qfh (QhP (X:=xat X ca pn Φ) hN hi hx hf) fun v σ H Q hQ=>by
  obtain⟨σ3,g,μ,d,σ3',R,q,e,k⟩:=hQ
  cases e
  exact k _ (R.set q i)
noncomputable def upGs (K:PySem.W.Frag) (ca:Nat->Addr) (fs:List MG):TGs:=fun vs σ H Q=>∃ σ3 g μ ds σ3',Rep K ca μ σ3 g σ H∧Dens K μ H vs ds∧Qep fs ds σ3=some σ3'∧∀ σ',Rep K ca μ σ3' g σ' H->Q σ' H
noncomputable def PGs3 (ca:Nat->Addr) (X:Cx) (tgs:List Expr) (fs:List MG):Prop:=∀ pn Φ,PGs (xat X ca pn Φ) tgs (upGs X.K ca fs)
theorem QdL {X:Cx} {tg:List Expr} {t t':TGs} (h:PGs X tg t) (i:∀ v σ H Q,t' v σ H Q->t v σ H Q):PGs X tg t':=fun pins s σ H xs us Q I r q=>h pins s σ H xs us Q I r (i xs σ H Q q)
theorem QaC:PGs3 ca X [] []:=fun pn Φ=>QdL (QhQ (X:=xat X ca pn Φ)) fun vs σ H Q hQ=>by
 obtain⟨σ3,g,μ,ds,σ3',R,q,e,k⟩:=hQ
 cases q with
 | nil=>cases e; exact⟨rfl,k _ R⟩
 | cons _ _=>cases e
theorem QQ {es:List Expr} {f:MG} {fs:List MG} (h1:PG3 ca X e f) (h2:PGs3 ca X es fs)
  (hs:(assignEach (e::es) X.env).map (·.2)=assign e X.env::(assignEach es X.env).map (·.2):=by rfl):PGs3 ca X (e::es) (f::fs) :=
 fun pn Φ=>QdL (Qgp (X:=xat X ca pn Φ) (h1 pn Φ) (h2 pn Φ) hs) fun vs σ H Q hQ=>by
  obtain⟨σ3,g,μ,ds,σ3',R,q,e,k⟩:=hQ
  cases q with
  | nil=>cases e
  | @cons v d vs ds q1 q2 =>
   unfold Qep at e
   cases hf:f d σ3 with
   | none=>rw [hf] at e; cases e
   | some σ4 =>
    rw [hf] at e
    exact⟨v,vs,rfl,σ3,g,μ,d,σ4,R,q1,hf,fun σ' R'=>⟨σ4,g,μ,ds,σ3',R',q2,e,k⟩⟩
theorem QcG:∀ {fs:List MG} {ds:List D} {σ σ':S3},Qep fs ds σ=some σ'->ds.length=fs.length
 | [],[],_,_,_=>rfl
 | [],_::_,_,_,h=>by cases h
 | _::_,[],_,_,h=>by cases h
 | f::fs,d::ds,σ,σ',h=>by
  unfold Qep at h
  cases hf:f d σ with
  | none=>rw [hf] at h; cases h
  | some σ4 =>
   rw [hf] at h
   rw [List.length_cons,List.length_cons,QcG (fs:=fs) h]
theorem QaD {es:List Expr} {k:Nat} {fs:List MG} (hc:X.calm=true) (h:PGs3 ca X es fs) (hn:(assignEach es X.env).length=fs.length:=by rfl)
  (hst:(assignEach es X.env).findIdx? (·.1)=none:=by rfl):PG3 ca X (.Tuple es k pos) (JJ fs) :=
 fun pn Φ=>Qfh (Qjh (X:=xat X ca pn Φ) hc (h pn Φ) hn hst) fun v σ H Q hQ=>by
  obtain⟨σ3,g,μ,d,σ3',R,q,e,kk⟩:=hQ
  cases q with
  | @tup a vs ds ht hs =>
   exact⟨a,vs,rfl,ht,hs.length.trans (QcG e),σ3,g,μ,ds,σ3',R,hs,e,kk⟩
  | _=>cases e
theorem QjK {K:PySem.W.Frag} {Φ:XS} {f:MG} (E:Ends) (σ:L2.St) (H:Hp) (h:upS K ca Φ (mAsg f me) E σ H):tAsg (up K ca Φ me) (upG K ca f) E σ H:=by
 obtain⟨σ3,g,μ,R,p⟩:=h
 refine⟨σ3,g,μ,R,?_⟩
 unfold mAsg at p
 cases hm:me σ3 g with
 | ok d g1 =>
  rw [hm] at p
  dsimp only at p
  intro v H' μ' e' r' q'
  cases hf:f d σ3 with
  | none=>rw [hf] at p; exact p.elim
  | some σ4 =>
   rw [hf] at p
   exact⟨σ3,g1,μ',d,σ4,R.go e' r',q',hf,fun σ' R'=>p σ' H' μ' e' R'⟩
 | raise _ _=>rw [hm] at p; exact RaP.stmt R p
 | stuck=>rw [hm] at p; exact p
theorem Qfi {tg:Expr} {f:MG} (he:PE3 ca X e me) (hg:PG3 ca X tg f) (hs:swapsWithSole [tg] e pos.line X.env=pure false:=by rfl) (hw:swappedStores [tg] e X.env=pure none:=by rfl)
  (h1:(assignEach [tg] X.env).map (·.2)=[assign tg X.env]:=by rfl):PS3 ca X (.Assign [tg] e pos) (mAsg f me) :=
 fun pn Φ=>YA (QeU (X:=xat X ca pn Φ) (he pn Φ) (hg pn Φ) hs hw h1) QjK
theorem QkS (i:Nat) {x:Str} {pos':Pos} (hN:X.N.Nodup) (he:PE3 ca X e me) (hi:X.N[i]?=some x:=by rfl) (hx:Loc X.env.scope x:=by first | exact Or.inl rfl | exact Or.inr rfl)
  (hs:swapsWith e (some (.Name x pos')) pos.line X.env=pure false:=by rfl) (hf:X.fn x=true∨X.env.scope.names.lookup x=some .local:=by first | exact .inl rfl | exact .inr rfl) :
  PS3 ca X (.Assign [.Name x pos'] e pos) (mAsg (gSet i) me) :=
 fun pn Φ=>YA (Qji (X:=xat X ca pn Φ) hN hi hx (he pn Φ) hs hf) fun E σ H h=>by
  obtain⟨σ3,g,μ,R,p⟩:=h
  refine⟨σ3,g,μ,R,?_⟩
  unfold mAsg gSet at p
  cases hm:me σ3 g with
  | ok d g1 =>
   rw [hm] at p
   exact fun v H' μ' e' r' q'=>p _ H' μ' e' ((R.go e' r').set q' i)
  | raise _ _=>rw [hm] at p; exact RaP.stmt R p
  | stuck=>rw [hm] at p; exact p
theorem FRel.look {K:PySem.W.Frag} {μ:List Addr} {H:Hp} {f:Str} {d:D}:∀ {fv:List (Str×V)} {fs:List (Str×D)},FRel K μ H fv fs->fs.lookup f=some d->∃ v,fv.lookup f=some v∧Den K μ H v d
 | _,_,.nil,h=>by cases h
 | (k,v)::r,(k',d')::r',.cons ⟨e,q⟩ t,h=>by
  have e:k=k':=e
  subst e
  cases hb:f == k with
  | true =>
   simp only [List.lookup,hb] at h ⊢
   cases h
   exact⟨v,rfl,q⟩
  | false =>
   simp only [List.lookup,hb] at h ⊢
   exact FRel.look t h
theorem FRel.no {K:PySem.W.Frag} {μ:List Addr} {H:Hp} {f:Str}:∀ {fv:List (Str×V)} {fs:List (Str×D)},FRel K μ H fv fs->fs.lookup f=Option.none->fv.lookup f=Option.none
 | _,_,.nil,_=>rfl
 | (k,v)::r,(k',d')::r',.cons ⟨e,q⟩ t,h=>by
  have e:k=k':=e
  subst e
  cases hb:f == k with
  | true=>simp only [List.lookup,hb] at h; cases h
  | false =>
   simp only [List.lookup,hb] at h ⊢
   exact FRel.no t h
theorem FRel.put {K:PySem.W.Frag} {μ:List Addr} {H:Hp} {f:Str} {v:V} {d:D} (q:Den K μ H v d):∀ {fv:List (Str×V)} {fs:List (Str×D)},FRel K μ H fv fs->FRel K μ H (putF f v fv) (putG f d fs)
 | _,_,.nil=>.cons ⟨rfl,q⟩ .nil
 | (k,w)::r,(k',d')::r',.cons ⟨e,z⟩ t=>by
  have e:k=k':=e
  subst e
  show FRel K μ H (if k=f then (k,v)::r else (k,w)::putF f v r) (if k=f then (k,d)::r' else (k,d')::putG f d r')
  by_cases h:k=f
  ·rw [if_pos h,if_pos h]; exact .cons ⟨rfl,q⟩ t
  ·rw [if_neg h,if_neg h]; exact .cons ⟨rfl,z⟩ (FRel.put q t)
theorem Qh7 {o i:Expr} {mo mi:ME} {pos':Pos} (ho:PE3 ca X o mo) (hi:PE3 ca X i mi) (he:PE3 ca X e me) (hs:swapsWithSole [.Subscript o i pos'] e pos.line X.env=pure false:=by rfl)
  (hw:swappedStores [.Subscript o i pos'] e X.env=pure none:=by rfl) (h1:(assignEach [.Subscript o i pos'] X.env).map (·.2)=[assign (.Subscript o i pos') X.env]:=by rfl)
  (ha:∀ v,assign (.Subscript o i pos') X.env v=(do
   let ov ← holding [v] (eval o X.env)
   let iv ← holding [v,ov] (eval i X.env)
   standAt pos'
   holding [v,ov,iv] (setItem ov iv v)
   release [v,ov,iv] []):=by intro _; rfl):PS3 ca X (.Assign [.Subscript o i pos'] e pos) (Qcy mo mi me) :=
 fun pn Φ=>YA (QeU (X:=xat X ca pn Φ) (he pn Φ) (Qhk (X:=xat X ca pn Φ) (ho pn Φ) (hi pn Φ) Qgu ha) hs hw h1) fun E σ H ⟨σ3,g,μ,R,p⟩=>⟨σ3,g,μ,R,by
  unfold Qcy at p
  cases hm:me σ3 g with
  | ok y g1 =>
   rw [hm] at p
   dsimp only at p
   intro vy H1 μ1 e1 r1 q1
   refine⟨σ3,g1,μ1,R.go e1 r1,?_⟩
   cases hm2:mo σ3 g1 with
   | ok d g2 =>
    rw [hm2] at p
    intro vx H2 μ2 e2 r2 q2
    cases q2 with
    | @ref n a hn =>
     dsimp only at p
     refine⟨σ3,g2,μ2,R.go (e1.trans e2) r2,?_⟩
     cases hm3:mi σ3 g2 with
     | ok di g3 =>
      rw [hm3] at p
      intro vi H3 μ3 e3 r3 q3
      cases q3 with
      | int k =>
       dsimp only at p
       cases hg:g3[n]? with
       | none=>rw [hg] at p; exact p.elim
       | some ob =>
        rw [hg] at p
        obtain⟨a',ha',orp⟩:=r3.addr hg
        rw [e3.at hn] at ha'; cases ha'
        cases ob with
        | lst ds =>
         dsimp only at p
         obtain⟨vs,hH,q⟩:=orp
         cases hj:ixD ds.length k with
         | none=>rw [hj] at p; exact p.elim
         | some j =>
          rw [hj] at p
          have ex:Ext X.K μ3 H3 μ3 (upd H3 a (.lst (vs.set j vy))):=Jj hH (by intro _ z; cases z) (by intro _ _ z; cases z)
          refine⟨a,vs,k,j,rfl,rfl,hH,by rw [q.length]; exact hj,?_⟩
          refine p σ _ μ3 (((e1.trans e2).trans e3).trans ex) ((R.go ((e1.trans e2).trans e3) r3).go ex ?_)
          exact r3.set (e3.at hn) hH (by intro _ z; cases z) (by intro _ _ z; cases z) ⟨_,Qt,Dens.set (((q1.mono e2).mono e3).mono ex) j (q.mono ex)⟩
        | _=>exact p.elim
      | _=>exact p.elim
     | raise _ _=>rw [hm3] at p; exact(RaP.stmt R p).go (e1.trans e2)
     | stuck=>rw [hm3] at p; exact p
    | _=>exact p.elim
   | raise _ _=>rw [hm2] at p; exact(RaP.stmt R p).go e1
   | stuck=>rw [hm2] at p; exact p
  | raise _ _=>rw [hm] at p; exact RaP.stmt R p
  | stuck=>rw [hm] at p; exact p⟩
noncomputable def Sim (K:PySem.W.Frag) (ca:Nat->Addr) (μ0:List Addr) (H0:Hp) (src:Src) (J:It):Prop :=
 ∀(i:Nat) (H:Hp) (μ:List Addr) (g:G),Ext K μ0 H0 μ H->GRep K ca μ H g->match src.at' g i with
  | some (some d)=>J.go i H∧∀ x H',J.yld i H x H'->Ext K μ H μ H'∧GRep K ca μ H' g∧Den K μ H' x d
  | some none=>J.stop i H
  | none=>True
noncomputable def upI (K:PySem.W.Frag) (ca:Nat->Addr) (Φ:XS) (m:MI):TI:=fun σ H R=>∃ σ3 g μ,Rep K ca μ σ3 g σ H∧match m σ3 g with
 | .ok src g'=>∀ J H' μ',Ext K μ H μ' H'->GRep K ca μ' H' g'->Sim K ca μ' H' src J->R J H'
 | .raise x g'=>RaP K ca Φ σ H μ x g'
 | .stuck=>False
noncomputable def PI3 (ca:Nat->Addr) (X:Cx) (tg iter:Expr) (m:MI):Prop:=∀ pn Φ,PI (xat X ca pn Φ) tg iter (upI X.K ca Φ m)
theorem Qda {tg iter:Expr} {body:List Stmt} {mi:MI} {f:MG} (hc:X.calm=true) (hi:PI3 ca X tg iter mi) (hg:PG3 ca X tg f) (hb:PSs3 ca X body m) (hs:∀ x,foldedSetIterable iter X.env x=pure x:=by intro _; rfl) (hk:X.stack=X.env::X.outer:=by rfl) (hf:X.env.frame=some X.env.locals:=by rfl) :
  PS3 ca X (.For tg iter body [] pos) (mFor mi f m) :=
 fun pn Φ=>YA (Qjk (X:=xat X ca pn Φ) (Qhq hk hf pn Φ) hc (hi pn Φ) (hg pn Φ) (hb pn Φ) hs) fun E σ H ⟨σ3,g,μ,R,p⟩=>⟨σ3,g,μ,R,by
  unfold mFor at p
  cases hm:mi σ3 g with
  | ok src g' =>
   rw [hm] at p
   dsimp only at p ⊢
   intro J H' μ' e' r' sim
   refine⟨fun i n σ1 H1=>∃ σ4 g1 μ1,Ext X.K μ' H' μ1 H1∧Rep X.K ca μ1 σ4 g1 σ1 H1∧PostS X.K ca Φ E H1 μ1 (forL src f m n i σ4 g1),⟨src.top+1,σ3,g',μ',.refl,R.go e' r',p.go e'⟩,?_⟩
   rintro i n σ1 H1 ⟨σ4,g1,μ1,e1,R1,p1⟩
   have s1:=sim i H1 μ1 g1 e1 R1.g
   cases n with
   | zero=>exact p1.elim
   | succ n =>
    unfold forL at p1
    cases ha:src.at' g1 i with
    | none=>rw [ha] at p1; exact p1.elim
    | some od =>
     rw [ha] at p1 s1
     cases od with
     | none=>exact .inl ⟨s1,p1 σ1 H1 μ1 .refl R1⟩
     | some d =>
      dsimp only at p1 s1
      obtain⟨go,yl⟩:=s1
      refine .inr ⟨go,fun σ2 H2=>∃ σ5 g2 μ2,Ext X.K μ' H' μ2 H2∧Rep X.K ca μ2 σ5 g2 σ2 H2∧PostS X.K ca Φ E H2 μ2 (forL src f m n (i+1) σ5 g2),fun σ2 H2 z=>⟨n,Nat.lt_succ_self n,z⟩,fun x H2 y=>?_⟩
      obtain⟨e2,r2,q2⟩:=yl x H2 y
      cases hf:f d σ4 with
      | none=>rw [hf] at p1; exact p1.elim
      | some σ5 =>
       rw [hf] at p1
       dsimp only at p1
       refine⟨σ4,g1,μ1,d,σ5,R1.go e2 r2,q2,hf,fun σ6 R6=>⟨σ5,g1,μ1,R6,?_⟩⟩
       cases hb:m σ5 g1 with
       | nx σ7 g7 =>
        rw [hb] at p1
        exact fun σ' H3 μ3 e3 R3=>⟨σ7,g7,μ3,(e1.trans e2).trans e3,R3,PostS.go (e2.trans e3) p1⟩
       | ct σ7 g7 =>
        rw [hb] at p1
        exact fun σ' H3 μ3 e3 R3=>⟨σ7,g7,μ3,(e1.trans e2).trans e3,R3,PostS.go (e2.trans e3) p1⟩
       | bk σ7 g7 =>
        rw [hb] at p1
        exact fun σ' H3 μ3 e3 R3=>p1 σ' H3 μ3 (e2.trans e3) R3
       | rt d7 g7 =>
        rw [hb] at p1
        exact fun v H3 μ3 e3 r3 q3=>p1 v H3 μ3 (e2.trans e3) r3 q3
       | raise _ _ _ =>
        rw [hb] at p1
        exact fun σ' H3 μ3 e3 R3=>p1 σ' H3 μ3 (e2.trans e3) R3
       | stuck=>rw [hb] at p1; exact p1
  | raise _ _=>rw [hm] at p; exact RaP.stmt R p
  | stuck=>rw [hm] at p; exact p⟩
theorem Qh8 {body:List Stmt} (hc:PT3 ca X c tc) (hb:PSs3 ca X body m) (hk:X.stack=X.env::X.outer:=by rfl) (hf:X.env.frame=some X.env.locals:=by rfl):PS3 ca X (.While c body [] pos) (Qcx tc m) :=
 fun pn Φ=>YA (Qgq (X:=xat X ca pn Φ) (Qhq hk hf pn Φ) (hc pn Φ) (hb pn Φ)) fun E σ H hQ=>by
  obtain⟨σ3,g,μ,R,p⟩:=hQ
  unfold Qcx at p
  by_cases hh:∃ f,Zy tc m f σ3 g≠.stuck
  ·rw [dif_pos hh] at p
   generalize hh.choose=k at p
   refine⟨fun n σ1 H1=>∃ σ4 g1 μ1,Ext X.K μ H μ1 H1∧Rep X.K ca μ1 σ4 g1 σ1 H1∧PostS X.K ca Φ E H1 μ1 (Zy tc m n σ4 g1),⟨k,σ3,g,μ,.refl,R,p⟩,?_⟩
   rintro n σ1 H1 ⟨σ4,g1,μ1,e1,R1,p1⟩
   cases n with
   | zero=>exact p1.elim
   | succ n =>
    unfold Zy at p1
    refine⟨σ4,g1,μ1,R1,?_⟩
    cases ht:tc σ4 g1 with
    | ok t g2 =>
     rw [ht] at p1
     cases t with
     | true =>
      dsimp only at p1
      intro H2 μ2 e2 r2
      rw [if_pos rfl]
      refine⟨fun σ2 H3=>∃ σ5 g3 μ3,Ext X.K μ H μ3 H3∧Rep X.K ca μ3 σ5 g3 σ2 H3∧PostS X.K ca Φ E H3 μ3 (Zy tc m n σ5 g3),fun σ2 H3 z=>⟨n,Nat.lt_succ_self n,z⟩,σ4,g2,μ2,R1.go e2 r2,?_⟩
      cases hb:m σ4 g2 with
      | nx σ7 g7 =>
       rw [hb] at p1
       exact fun σ' H3 μ3 e3 R3=>⟨σ7,g7,μ3,(e1.trans e2).trans e3,R3,PostS.go (e2.trans e3) p1⟩
      | ct σ7 g7 =>
       rw [hb] at p1
       exact fun σ' H3 μ3 e3 R3=>⟨σ7,g7,μ3,(e1.trans e2).trans e3,R3,PostS.go (e2.trans e3) p1⟩
      | bk σ7 g7 =>
       rw [hb] at p1
       exact fun σ' H3 μ3 e3 R3=>p1 σ' H3 μ3 (e2.trans e3) R3
      | rt d7 g7 =>
       rw [hb] at p1
       exact fun v H3 μ3 e3 r3 q3=>p1 v H3 μ3 (e2.trans e3) r3 q3
      | raise _ _ _ =>
       rw [hb] at p1
       exact fun σ' H3 μ3 e3 R3=>p1 σ' H3 μ3 (e2.trans e3) R3
      | stuck=>rw [hb] at p1; exact p1
     | false =>
      intro H2 μ2 e2 r2
      rw [if_neg Bool.false_ne_true]
      exact p1 σ1 H2 μ2 e2 (R1.go e2 r2)
    | raise _ _=>rw [ht] at p1; exact RaP.stmt R1 p1
    | stuck=>rw [ht] at p1; exact p1
  ·rw [dif_neg hh] at p; exact p.elim
end
end L3
end
section
namespace L3
open PySem PySem.Spec PyProof.Rows L2
noncomputable def spM (K:PySem.W.Frag) (ca:Nat->Addr) (n:Nat) (F:MF):Sp:=fun vs H Q E=>vs.length=n∧∃ ds g μ,GRep K ca μ H g∧Dens K μ H vs ds∧match F ds g with
 | .ok d g'=>∀ v H' μ',Ext K μ H μ' H'->GRep K ca μ' H' g'->Den K μ' H' v d->Q v H'
 | .raise x g'=>∀ H' μ',Ext K μ H μ' H'->GRep K ca μ' H' g'->E (.int x.1 0) x.2 H'
 | .stuck=>False
theorem Qfj {K:PySem.W.Frag} {ca:Nat->Addr} {μ:List Addr} {H:Hp} {g:G} {vs:List V} {ds:List D} (N:List Str) (r:GRep K ca μ H g) (q:Dens K μ H vs ds):Rep K ca μ (ds.map some++List.replicate (N.length - vs.length) none) g (L2.start N vs) H:=by
 unfold L2.start
 refine⟨r,?_,fun i d h=>?_⟩
 ·rw [List.length_append,List.length_append,List.length_map,List.length_map,q.length,List.length_replicate,List.length_replicate]
 ·by_cases hi:i<ds.length
  ·rw [List.getElem?_append_left (by simpa using hi),List.getElem?_map] at h
   cases hd:ds[i]? with
   | none=>rw [hd] at h; cases h
   | some d' =>
    rw [hd] at h; cases h
    obtain⟨v,h1,h2⟩:=q.get hd
    refine⟨v,?_,h2⟩
    rw [List.getElem?_append_left (by simpa [q.length] using hi),List.getElem?_map,h1]; rfl
  ·rw [List.getElem?_append_right (by simpa using hi),List.getElem?_replicate] at h
   split at h <;> cases h
structure FnH (P:Program) (w:World) (K:PySem.W.Frag) (mg:Str->Option Value) (base:Heap) (ca:Nat->Addr) (x:Str) (k n:Nat) (F:MF):Prop where
 ex:∃(f:Addr) (fd:FuncData) (ps:List Str),FnOk P w K mg base (CXW P w ca) k f fd ps (spM K ca n F)∧mg x=some (.ref f)∧PySem.W.keepIn K (.ref f)=true∧Binds K fd ps []
 st:∀ ds g,ds.length≠n->F ds g=.stuck
theorem QH (k n:Nat) (m:MS):∀ ds g,ds.length≠k->mDef k n m ds g=.stuck:=fun ds g h=>by unfold mDef; rw [if_neg h]
theorem FnH.mono {P:Program} {w:World} {K:PySem.W.Frag} {mg:Str->Option Value} {base:Heap} {ca:Nat->Addr} {x:Str} {j k n:Nat} {F:MF} (h:FnH P w K mg base ca x j n F) (hj:j≤k):FnH P w K mg base ca x k n F:=by
 obtain⟨f,fd,ps,a,b⟩:=h.ex
 exact⟨⟨f,fd,ps,a.mono hj,b⟩,h.st⟩
section
variable {P:Program} {w:World} {K:PySem.W.Frag} {mg:Str->Option Value} {base:Heap} {ca:Nat->Addr}
theorem Qfk {N:List Str} {qual:Str} {scope:Scope} {f:Addr} {cd:Value} {A:Around} {outer:List Env} {s:Shared} {H:Hp} {E:XK} {body:List Stmt} {t:TS}
  (h:PSs (xat (cxOf (CXW P w ca) P w K mg base N qual scope f cd A outer s H E) ca [] (fun x _ H'=>E (.int x.1 0) x.2 H')) body t):PSs (cxOf (CXW P w ca) P w K mg base N qual scope f cd A outer s H E) body t:=fun pins s1 σ H1 D I q =>
 wpAny_mono (h pins s1 σ H1 D (Inv.wish I _) q) (fun _ _ z=>SP.unwish (X:=cxOf (CXW P w ca) P w K mg base N qual scope f cd A outer s H E) z) fun _ _ z=>Qgx z
theorem ZI {x qual:Str} {st:Stmt} {f:Addr} {fd:FuncData} {N ps:List Str} {k n j:Nat} {m:MS} (F:Fun K x qual st f fd) (S:FnScope N ps (Qe st)) (hj:ps.length=j) (hn:N.length - ps.length=n)
  (h:∀(cdv:Value) (A:Around) (outer:List Env) (s:Shared) (H:Hp) (E:XK),Room k (A.deeper (envOfC qual (Qe st) s.heap.objs.size f cdv)) ->
   PSs3 ca (cxOf (CXW P w ca) P w K mg base N qual (Qe st) f cdv A outer s H E) (QA st) m):FnOk P w K mg base (CXW P w ca) (k+1) f fd ps (spM K ca j (mDef j n m)):=by
 subst hj
 obtain⟨oc,od,kV,doc,pm,an,cdv,ct,osl,rfl,lk,hcd⟩:=F.ex
 refine Qjr lk hcd S (fun vs H Q E q=>q.1) fun A outer s H vs Q E hr hsp=>?_
 obtain⟨hl,ds,g,μ,r,q,p⟩:=hsp
 refine⟨_,Qfk (h cdv A outer s H E hr [] _),ds.map some++List.replicate n none,g,μ,?_,?_⟩
 ·have z:=Qfj N r q
  rw [hl,hn] at z
  exact z
 ·unfold mDef at p
  rw [if_pos (by rw [← q.length,hl])] at p
  cases hm:m (ds.map some++List.replicate n none) g with
  | nx σ' g'=>rw [hm] at p; exact fun σ'' H' μ' e' R'=>p .non H' μ' e' R'.g .non
  | rt d g'=>rw [hm] at p; exact p
  | bk _ _=>rw [hm] at p; exact p.elim
  | ct _ _=>rw [hm] at p; exact p.elim
  | raise _ _ _=>rw [hm] at p; exact fun σ'' H' μ' e' R'=>p H' μ' e' R'.g
  | stuck=>rw [hm] at p; exact p.elim
noncomputable def EK (Φ:XS) (σ:L2.St):XK:=fun c l H'=>∀ x:Xc,c=.int x.1 0->l=x.2->Φ x σ H'
theorem QjL {F:MF} {n:Nat} {Φ:XS} {σ:L2.St} {Q:VK} {H:Hp} {μ:List Addr} {vs:List V} {ds:List D} {g:G} (st:∀ ds g,ds.length≠n->F ds g=.stuck) (r:GRep K ca μ H g) (q:Dens K μ H vs ds) (p:Post K ca Φ σ Q H μ (F ds g)):spM K ca n F vs H Q (EK Φ σ):=by
 have hl:vs.length=n:=by
  rw [q.length]
  apply Decidable.byContradiction
  intro h
  rw [st ds g h] at p
  exact p
 refine⟨hl,ds,g,μ,r,q,?_⟩
 cases hF:F ds g with
 | ok d g'=>rw [hF] at p; exact p
 | raise x g' =>
  rw [hF] at p
  intro H' μ' e r' y e1 e2
  have:x=y:=by
   obtain⟨a,b⟩:=x
   obtain⟨c,d⟩:=y
   injection e1 with e1
   have e1:(a:Int)=(c:Int):=e1
   have e3:a=c:=by omega
   rw [e3,show b=d from e2]
  rw [← this]
  exact p H' μ' e r'
 | stuck=>rw [hF] at p; exact p
end
section
variable {X:Cx} {ca:Nat->Addr} {e o:Expr} {es:List Expr} {me mo:ME} {mr:MA} {p pos apos:Pos} {k n:Nat} {F:MF} {pn:List (Addr×Obj)} {Φ:XS}
theorem QjM {f:Addr} {fd:FuncData} {ps:List Str} {pins:List (Addr×Obj)} {σ:L2.St} {H:Hp} {s:Shared} {Q:VK} {us:List Value} {vs:List V} (G:FnOk X.prog X.w X.K X.mg X.base (CXW X.prog X.w ca) k f fd ps (spM X.K ca n F)) (hr:Room k X.A) (hb:Binds X.K fd ps [])
  (I:Inv (xat X ca pn Φ) pins σ H s) (r:Vals vs us) (h:spM X.K ca n F vs H Q (EK Φ σ)):wpAny (model X.prog X.w) X.A (call (.ref f) us) (EP (xat X ca pn Φ) pins σ Q) (xat X ca pn Φ).xe s:=by
 have hl:(us++[]).length=ps.length:=by rw [List.append_nil,← r.length]; exact G.len _ _ _ _ h
 have b:=hb s us I.kIn hl
 rw [List.append_nil] at b
 refine wpAny_call (codeAny_mono (G.run X.A X.stack s H ⟨us,[]⟩ us vs Q (EK Φ σ) hr I.env0 b r h) fun res s' hq=>?_)
 cases res with
 | error z=>exact Qh6 I hq
 | ok fl =>
  cases fl with
  | ret u=>exact I.after hq
  | _=>exact False.elim hq
theorem Qu {x:Str} (h:FnH X.prog X.w X.K X.mg X.base ca x k n F) (hr:Room k X.A) (ha:PA3 ca X (e::es) mr) (hg:Gl X x:=by rfl) (hdb:(x == ("__debug__" : Str))=false:=by decide)
  (he:starEach (e::es) X.env=(false,eval e X.env)::starEach es X.env:=by rfl) (hpl:(backTo pos (starEach es X.env)).any (·.1)=false:=by rfl):PE3 ca X (.Call (.Name x p) (e::es) [] pos) (Qs F mr):=by
 obtain⟨f,fd,ps,F1,m1,k1,b1⟩:=h.ex
 intro pn Φ pins s σ H Q I ⟨σ3,g,μ,R,q⟩
 refine wpAny_Call_Name_kw (QbE I hg m1 ?_ hdb)
 have z:upA X.K ca Φ mr σ H fun vs H1=>spM X.K ca n F vs H1 Q (EK Φ σ):=Qah (Qfc R q) fun xs H1 ⟨ds,g1,μ1,e1,R1,q1,p1⟩=>QjL h.st R1.g q1 p1
 refine PySem.W.callWith_K (h₀:=X.base) I.ok.mod.kin k1 (thn (ha pn Φ pos pins s σ H _ I z) fun us s1 ⟨vs,H1,I1,r,q1⟩=>⟨I1.kIn,?_⟩) he hpl
 exact QjM F1 hr b1 I1 r q1
end
section
variable {X:Cx} {ca:Nat->Addr} {tg e:Expr} {me:ME} {mr:MA} {p pos:Pos}
theorem QbK {X:Cx} {tg iter:Expr} {t t':TI} (h:PI X tg iter t) (i:∀ σ H R,t' σ H R->t σ H R):PI X tg iter t':=fun pins s σ H R I q=>h pins s σ H R I (i σ H R q)
theorem Qfl (K:PySem.W.Frag) (μ:List Addr) (H:Hp) (lo:Int) (n:Nat):Sim K ca μ H (Zg lo n) (Itr lo n):=by
 intro i H1 μ1 g1 e r
 unfold Zg
 dsimp only
 by_cases h:i<n
 ·rw [if_pos h]
  exact⟨h,fun x H' y=>by obtain⟨rfl,rfl⟩:=y; exact⟨.refl,r,.int _⟩⟩
 ·rw [if_neg h]
  exact Nat.le_of_not_lt h
theorem Qh9 {K:PySem.W.Frag} {μ:List Addr} {H:Hp} {a:Addr} {vs:List V} {ds:List D} (h:SqT K H a vs) (q:Dens K μ H vs ds):Sim K ca μ H ⟨fun _ i=>some ds[i]?,ds.length⟩ (Itt K a):=by
 intro i H1 μ1 g1 e r
 dsimp only
 cases hd:ds[i]? with
 | none =>
  refine⟨vs,e.tup _ _ h,?_⟩
  rw [q.length]
  exact List.getElem?_eq_none_iff.mp hd
 | some d =>
  obtain⟨v,h1,h2⟩:=q.get hd
  refine⟨⟨vs,v,e.tup _ _ h,h1⟩,fun x H' y=>?_⟩
  obtain⟨rfl,y⟩:=y
  have:=y vs (e.tup _ _ h)
  rw [h1] at this; cases this
  exact⟨.refl,r,h2.mono e⟩
theorem Qia {K:PySem.W.Frag} {μ:List Addr} {H:Hp} {a:Addr} {n t:Nat} (hn:μ[n]?=some a):Sim K ca μ H ⟨fun g i=>(match g[n]? with | some (.lst es)=>some es[i]? | _=>none),t⟩ (Itl K a):=by
 intro i H1 μ1 g1 e r
 dsimp only
 cases hg:g1[n]? with
 | none=>trivial
 | some o =>
  cases o with
  | lst ds =>
   dsimp only
   obtain⟨a',ha',vs,hH,q⟩:=r.addr hg
   rw [e.at hn] at ha'; cases ha'
   cases hd:ds[i]? with
   | none =>
    refine⟨vs,.of hH,?_⟩
    rw [q.length]
    exact List.getElem?_eq_none_iff.mp hd
   | some d =>
    obtain⟨v,h1,h2⟩:=q.get hd
    refine⟨⟨vs,v,.of hH,h1⟩,fun x H' y=>?_⟩
    obtain⟨rfl,y⟩:=y
    have:=y vs (.of hH)
    rw [h1] at this; cases this
    exact⟨.refl,r,h2⟩
  | _=>trivial
theorem QjN {K:PySem.W.Frag} {μ:List Addr} {H:Hp} {a:Addr} {vs:List V} {ds:List D} (h:SqF K H a vs) (q:Dens K μ H vs ds):Sim K ca μ H ⟨fun _ i=>some ds[i]?,ds.length⟩ (Itl K a):=by
 intro i H1 μ1 g1 e r
 dsimp only
 have sq:SqL K H1 a vs:=(e.fl _ _ h).sq
 cases hd:ds[i]? with
 | none =>
  refine⟨vs,sq,?_⟩
  rw [q.length]
  exact List.getElem?_eq_none_iff.mp hd
 | some d =>
  obtain⟨v,h1,h2⟩:=q.get hd
  refine⟨⟨vs,v,sq,h1⟩,fun x H' y=>?_⟩
  obtain⟨rfl,y⟩:=y
  have:=y vs sq
  rw [h1] at this; cases this
  exact⟨.refl,r,h2.mono e⟩
theorem QjO {l:Expr} {tl:TE} (hl:PE X l tl):PI X tg l (fun σ H R=>tl σ H fun x H1=>(∃ a,x=.ref a∧(∃ xs,SqL X.K H1 a xs)∧R (Itl X.K a) H1)∨∃ a,x=.ref a∧(∃ xs,SqT X.K H1 a xs)∧R (Itt X.K a) H1):=by
 intro pins s σ H R I h
 refine thn (hl pins s σ H _ I h) fun v s1 ⟨x,H1,I1,r1,q1⟩=>?_
 rcases q1 with⟨a,e,⟨xs,hq⟩,q⟩ | ⟨a,e,⟨xs,hq⟩,q⟩
 ·subst e
  cases r1
  obtain⟨its,rv,p,hz⟩:=I1.list hq
  refine wpAny_pyIter_list p.isList ?_
  refine⟨s1.heap.objs.size,[s1.heap.objs.size],_,_,H1,rfl,I1.kept (t':=s1.toks) fun b o e=>Heap.get?_push_of_some _ e,QeV a _,⟨_,Heap.get?_push_size _ rfl,rfl,rfl⟩,fun b hb=>?_,q⟩
  have e:b=s1.heap.objs.size:=by simpa using hb
  subst e
  exact I1.fpOk (Nat.le_refl _) (I1.hok.fresh (Nat.le_refl _))
 ·subst e
  cases r1
  obtain⟨its,rv,p,hz⟩:=I1.tuple hq
  refine wpAny_pyIter_tuple (show s1.heap.IsTuple a its.toArray from p) ?_
  refine⟨s1.heap.objs.size,[s1.heap.objs.size],_,_,H1,rfl,I1.kept (t':=s1.toks) fun b o e=>Heap.get?_push_of_some _ e,Qee a _,⟨_,Heap.get?_push_size _ rfl,rfl,rfl⟩,fun b hb=>?_,q⟩
  have e:b=s1.heap.objs.size:=by simpa using hb
  subst e
  exact I1.fpOk (Nat.le_refl _) (I1.hok.fresh (Nat.le_refl _))
theorem Yl (he:PE3 ca X e me):PI3 ca X tg e (QW me) :=
 fun pn Φ=>QbK (QjO (X:=xat X ca pn Φ) (he pn Φ)) fun σ H R hQ=>by
  obtain⟨σ3,g,μ,Rp,p⟩:=hQ
  unfold QW at p
  refine⟨σ3,g,μ,Rp,?_⟩
  cases hm:me σ3 g with
  | raise _ _=>rw [hm] at p; exact p
  | stuck=>rw [hm] at p; exact p.elim
  | ok d g1 =>
   rw [hm,Res.bind_ok] at p
   intro v H1 μ1 e1 r1 q1
   unfold Qcz at p
   cases q1 with
   | @tup a vs ds ht hs =>
    exact .inr ⟨a,rfl,⟨vs,ht⟩,p _ H1 μ1 e1 r1 (Qh9 ht hs)⟩
   | @fl a vs ds ht hs=>exact .inl ⟨a,rfl,⟨vs,ht.sq⟩,p _ H1 μ1 e1 r1 (QjN ht hs)⟩
   | @ref n a hn =>
    dsimp only at p
    cases hg:g1[n]? with
    | none=>rw [hg] at p; exact p.elim
    | some o =>
     rw [hg] at p
     obtain⟨a',ha',orp⟩:=r1.addr hg
     rw [hn] at ha'; cases ha'
     cases o with
     | lst ds=>obtain⟨vs,hH,q⟩:=orp; exact .inl ⟨a,rfl,⟨vs,.of hH⟩,p _ H1 μ1 e1 r1 (Qia hn)⟩
     | _=>exact p.elim
   | _=>exact p.elim
theorem Qai (hm:X.mg "range" = none) (he:PE3 ca X e me) (hg:Gl X "range":=by rfl) (hs:starEach [e] X.env=[(false,eval e X.env)]:=by rfl):PI3 ca X tg (.Call (.Name "range" p) [e] [] pos) (Zz me) :=
 fun pn Φ=>QbK (QeW (X:=xat X ca pn Φ) hg hm (Jw he Qk hs pn Φ) hs) fun σ H R hQ=>by
  obtain⟨σ3,g,μ,Rp,p⟩:=hQ
  refine⟨σ3,g,μ,Rp,?_⟩
  unfold Zz at p
  unfold Qa mNil
  cases hm:me σ3 g with
  | raise _ _=>rw [hm] at p; exact p
  | stuck=>rw [hm] at p; exact p.elim
  | ok d g1 =>
   rw [hm,Res.bind_ok] at p
   rw [Res.bind_ok,Res.bind_ok]
   intro vs H1 μ1 e1 r1 q1
   cases q1 with
   | cons h1 h2 =>
    cases h2
    cases h1 with
    | int j =>
     dsimp only at p
     by_cases hj:inR j
     ·rw [if_pos hj] at p
      exact⟨j,rfl,hj.1,hj.2,p _ H1 μ1 e1 r1 (Qfl X.K μ1 H1 0 j.toNat)⟩
     ·rw [if_neg hj] at p; exact p.elim
    | _=>exact p.elim
end
end L3
end
section
namespace L3
open PySem PySem.Spec PyProof.Rows L2
noncomputable def blk (X:Cx) (scope:Scope) (cl:List (Str×Addr)) (C:Addr) (Nb:List Str) (s3:Shared) (H3:Hp) (ex:List Addr):Cx :=
 { X with env:=compEnvC scope cl C X.env,N:=Nb,s₀:=s3,H₀:=H3,outer:=X.stack,stack:=X.stack,ex:=ex,fn:=fun _=>false,pn:=[],xe:=fun _ _=>False }
structure BScope (X:Cx) (scope:Scope) (Nb:List Str) (no:Nat) (cap:List Nat):Prop where
 kind:scope.kind=.function
 cell:∀ y∈scope.names,y.2≠.cell
 loc:∀ y∈scope.names,y.2=.local->scope.names.lookup y.1=some .local
 free:∀ y∈scope.names,y.2=.free->X.env.kindOf y.1=some .cell∨X.env.kindOf y.1=some .free
 len:Nb.length=no+cap.length
 cap:∀(j i:Nat),cap[j]?=some i->∃ x,Nb[no+j]?=some x∧X.N[i]?=some x∧scope.names.lookup x=some .free∧Vis X.env.scope x∧X.env.kindOf x≠some .local
noncomputable def clOf (cells:List (Str×Addr)):List (Str×NameKind)->List (Str×Addr)->Option (List (Str×Addr))
 | [],cs=>some cs
 | (n,k)::r,cs=>if (k == .free)=true then (match cells.lookup n with
  | some a=>clOf cells r ((n,a)::cs)
  | none=>none) else clOf cells r cs
theorem JM {env:Env}:∀(names:List (Str×NameKind)) (cs cl:List (Str×Addr)),clOf env.cells names cs=some cl ->
  (forIn names cs fun(x:Str×NameKind) (r:List (Str×Addr))=>(match x with
   | (name,kind)=>if (kind == .free)=true then (do let a ← cellOf env name; pure (ForInStep.yield ((name,a)::r))) else pure (ForInStep.yield r):Sem (ForInStep (List (Str×Addr)))))=(pure cl:Sem (List (Str×Addr)))
 | [],cs,cl,h=>by cases h; rfl
 | (n,k)::r,cs,cl,h=>by
  unfold clOf at h
  rw [List.forIn_cons]
  by_cases hk:(k == .free)=true
  ·rw [if_pos hk] at h
   cases hl:env.cells.lookup n with
   | none=>rw [hl] at h; cases h
   | some a =>
    rw [hl] at h
    dsimp only at h ⊢
    rw [if_pos hk]
    unfold cellOf
    rw [hl]
    exact JM r _ cl h
  ·rw [if_neg hk] at h
   dsimp only
   rw [if_neg hk]
   exact JM r _ cl h
theorem Jx {scope:Scope} {env:Env} {cl:List (Str×Addr)} (h:clOf env.cells scope.names []=some cl):closureFor scope env=pure cl:=by
 have q:=JM (env:=env) scope.names [] cl h
 unfold closureFor
 exact congrArg (fun t=>t >>= fun r=>(pure r:Sem _)) q
theorem Jy {cells:List (Str×Addr)}:∀(names:List (Str×NameKind)) (cs:List (Str×Addr)),(∀ y∈names,y.2=.free->∃ c,cells.lookup y.1=some c)->∃ cl,clOf cells names cs=some cl
 | [],cs,_=>⟨cs,rfl⟩
 | (n,k)::r,cs,h=>by
  unfold clOf
  by_cases hk:(k == .free)=true
  ·rw [if_pos hk]
   obtain⟨c,e⟩:=h (n,k) List.mem_cons_self (beq_iff_eq.mp hk)
   rw [show cells.lookup n=some c from e]
   exact Jy r _ fun y hy=>h y (List.mem_cons_of_mem _ hy)
  ·rw [if_neg hk]
   exact Jy r _ fun y hy=>h y (List.mem_cons_of_mem _ hy)
theorem Yc {cells:List (Str×Addr)}:∀(names:List (Str×NameKind)) (cs cl:List (Str×Addr)),clOf cells names cs=some cl->(∀ x c,cs.lookup x=some c->cells.lookup x=some c)->∀ x c,cl.lookup x=some c->cells.lookup x=some c
 | [],cs,cl,h,hc=>by cases h; exact hc
 | (n,k)::r,cs,cl,h,hc=>by
  unfold clOf at h
  by_cases hk:(k == .free)=true
  ·rw [if_pos hk] at h
   cases hl:cells.lookup n with
   | none=>rw [hl] at h; cases h
   | some a =>
    rw [hl] at h
    refine Yc r _ cl h fun x c e=>?_
    by_cases z:x=n
    ·subst z
     simp only [List.lookup,beq_self_eq_true] at e
     cases e
     exact hl
    ·have zb:(x == n)=false:=beq_eq_false_iff_ne.mpr z
     simp only [List.lookup,zb] at e
     exact hc x c e
  ·rw [if_neg hk] at h
   exact Yc r _ cl h hc
theorem Qaj {cells:List (Str×Addr)}:∀(names:List (Str×NameKind)) (cs cl:List (Str×Addr)),clOf cells names cs=some cl->∀ x,(x∈names.filterMap fun y=>if (y.2 == .free)=true then some y.1 else none)∨(∃ c,cs.lookup x=some c)->∃ c,cl.lookup x=some c
 | [],cs,cl,h,x,hx=>by
  cases h
  rcases hx with hx | hx
  ·simp at hx
  ·exact hx
 | (n,k)::r,cs,cl,h,x,hx=>by
  unfold clOf at h
  by_cases hk:(k == .free)=true
  ·rw [if_pos hk] at h
   cases hl:cells.lookup n with
   | none=>rw [hl] at h; cases h
   | some a =>
    rw [hl] at h
    refine Qaj r _ cl h x ?_
    by_cases z:x=n
    ·subst z
     exact .inr ⟨a,by simp [List.lookup]⟩
    ·have zb:(x == n)=false:=beq_eq_false_iff_ne.mpr z
     rcases hx with hx | ⟨c,hx⟩
     ·rw [List.filterMap_cons] at hx
      simp only [hk,if_true] at hx
      rcases List.mem_cons.mp hx with e | e
      ·exact absurd e z
      ·exact .inl e
     ·exact .inr ⟨c,by simp only [List.lookup,zb]; exact hx⟩
  ·rw [if_neg hk] at h
   refine Qaj r _ cl h x ?_
   rcases hx with hx | hx
   ·rw [List.filterMap_cons] at hx
    simp only [hk] at hx
    exact .inl (by simpa using hx)
   ·exact .inr hx
theorem QaE {names:List (Str×NameKind)} {x:Str} (h:names.lookup x=some .free):x∈names.filterMap fun y=>if (y.2 == .free)=true then some y.1 else none :=
 List.mem_filterMap.mpr ⟨(x,.free),PySem.mem_of_lookup h,by simp⟩
theorem YM {env:Env}:∀ {names:List (Str×NameKind)} {x:Str} {k:NameKind},(∀ y∈names,y.2≠.cell) ->
  (names.map fun(n,k)=>if (k == NameKind.free && env.scope.kind == .function && env.kindOf n == some .cell) then (n,NameKind.cell) else (n,k)).lookup x=some k->(k=.cell∨k=.free)->names.lookup x=some .free
 | [],_,_,_,h,_=>by cases h
 | (n,k0)::r,x,k,hn,h,hk=>by
  have ih:=@YM env r x k fun y hy=>hn y (List.mem_cons_of_mem _ hy)
  rw [List.map_cons] at h
  by_cases hc:(k0 == NameKind.free && env.scope.kind == .function && env.kindOf n == some .cell)=true
  ·have k0f:k0=.free:=by
    simp only [Bool.and_eq_true] at hc
    exact beq_iff_eq.mp hc.1.1
   dsimp only at h
   rw [if_pos hc] at h
   cases hx:x == n with
   | true=>simp only [List.lookup,hx]; rw [k0f]
   | false=>simp only [List.lookup,hx] at h ⊢; exact ih h hk
  ·dsimp only at h
   rw [if_neg hc] at h
   cases hx:x == n with
   | true =>
    simp only [List.lookup,hx] at h ⊢
    cases h
    rcases hk with e | e
    ·exact absurd e (hn (n,k0) List.mem_cons_self)
    ·rw [e]
   | false=>simp only [List.lookup,hx] at h ⊢; exact ih h hk
theorem QcH {prog:Program} {w:World} {A:Around} {R:Result->Shared->Prop} {s:Shared} {elt target iter:Expr} {ifs:List Expr} {scope:Scope} {pos:Pos} {it acc:Value} {env:Env} (I:Nat->Shared->Prop)
  (turn:∀ n s,I n s->wpAny (model prog w) A (pyNext it) (fun r s₁=>match r with
   | none=>R (.ok .next) s₁
   | some v=>wpAny (model prog w) A (letOwnedTupleGo target it v) (fun _ s1'=>wpAny (model prog w) A (assign target env v) (fun _ s₂ =>
     wpAny (model prog w) A (forIn ifs true fun c r=>if r=true then do let ok ← isTrue c env (eval c env); pure (ForInStep.yield ok) else pure (ForInStep.yield r)) (fun ok s₃ =>
      if ok=true then wpAny (model prog w) A (eval elt env) (fun x s₄ =>
       wpAny (model prog w) A (call (.builtin "list.append") [acc,x]) (fun _ s₅=>∃ m,m<n∧I m s₅) (fun _ _=>False) s₄) (fun _ _=>False) s₃
      else ∃ m,m<n∧I m s₃) (fun _ _=>False) s₂) (fun _ _=>False) s1') (fun _ _=>False) s₁) (fun _ _=>False) s)
  (n:Nat) (h:I n s):codeAny (model prog w) A (.compLoop (.ListComp elt [⟨target,iter,ifs,0⟩] scope pos) 0 it acc env) R s:=by
 refine codeAny_loop rfl I (fun n s hI=>?_) n h
 show wpAny _ A ((compTurn (.ListComp elt [⟨target,iter,ifs,0⟩] scope pos) 0 it acc env).onRaise (fun x=>do noteFrame x env; theTreesLotGoes x)) _ _ s
 refine wpAny_noted ?_
 rw [compTurn_list]
 refine wpAny_bind (wpAny_standAt (wpAny_bind (wpAny_mono (turn n s hI) (fun r s₁ h₁=>?_) fun _ _ h'=>h'.elim)))
 cases r with
 | none=>exact wpAny_pure h₁
 | some v =>
  refine wpAny_bind (wpAny_mono h₁ (fun _ s1' h1'=>?_) fun _ _ h'=>h'.elim)
  refine wpAny_bind (wpAny_mono h1' (fun _ s₂ h₂=>wpAny_bind (wpAny_mono h₂ (fun ok s₃ h₃=>?_) fun _ _ h'=>h'.elim)) fun _ _ h'=>h'.elim)
  cases ok with
  | false=>exact wpAny_pure ⟨rfl,h₃⟩
  | true =>
   exact wpAny_bind (wpAny_bind (wpAny_mono h₃ (fun x s₄ h₄=>wpAny_bind (wpAny_mono h₄ (fun _ s₅ h₅=>wpAny_pure (wpAny_pure ⟨rfl,h₅⟩)) fun _ _ h'=>h'.elim)) fun _ _ h'=>h'.elim))
theorem Inv.track {X:Cx} {pins:List (Addr×Obj)} {σ:L2.St} {H:Hp} {s:Shared} {a:Addr} {o:HO} (I:Inv X pins σ H s) (ha:FpOk X pins H a) (new:ObjOk X.prog X.w (upd H a o) s.heap a o):Inv X pins σ (upd H a o) s:=by
 obtain⟨f0,f1,f2,f3,f4,f5⟩:=ha
 have ne:∀ b u,H b=some u->b≠a:=fun b u e=>QI e f0
 refine I.step (h':=s.heap) (g':=s.gens) (t':=s.toks) (d':=s.drawn) (ch:=[a]) (fun b hb=>?_) (fun b o _ _ _ e _=>e) (fun b o _ _ _ e _=>⟨o.slots,e⟩) (fun b o hb e n=>?_) (fun b o _ e=>⟨o,e⟩)
  (fun b xs e=>by rw [Qw (ne b _ e)]; exact e) (fun b o u e=>by rw [Qw (ne b _ e)]; exact e) (fun b ps e=>⟨#[],by rw [Qw (ne b _ e),e]; simp⟩) (fun _ h=>h) (fun b u e=>?_) I.bare
 ·have e:b=a:=by simpa using hb
  subst e
  exact⟨f3,f1,f4,f5⟩
 ·rw [Qw (fun z=>hb (by simp [z]))]; exact n
 ·by_cases hb:b=a
  ·subst hb; rw [Qt] at e; cases e; exact new
  ·rw [Qw hb] at e
   exact(I.hok b u e).stay (fun _ _ _ q=>q) (fun c q=>by rw [Qw (ne c _ q)]; exact q) fun c xs q=>by rw [Qw (ne c _ q)]; exact q
theorem FpOk.mono {X:Cx} {pins:List (Addr×Obj)} {H H':Hp} {b:Addr} (h:FpOk X pins H b) (n:H' b=none):FpOk X pins H' b:=⟨n,h.2⟩
noncomputable abbrev F0:XS:=fun _ _ _=>False
theorem noX {α:Type} {M:Model} {A:Around} {X:Cx} {ca:Nat->Addr} {t:Sem α} {Q:α->Shared->Prop} {s:Shared} (h:wpAny M A t Q (XE X ca F0) s):wpAny M A t Q (fun _ _=>False) s:=wpAny_mono h (fun _ _ z=>z) fun _ _ ⟨_,_,_,_,_,_,_,z⟩=>z
noncomputable def PIf (ca:Nat->Addr) (X:Cx) (ifs:List Expr) (m:MT):Prop :=
 ∀(pins:List (Addr×Obj)) (s:Shared) (σ:L2.St) (H:Hp) (Q:Bool->Hp->Prop),Inv (xat X ca [] F0) pins σ H s->upT X.K ca F0 m σ H Q ->
  wpAny (model X.prog X.w) X.A (forIn ifs true fun c r=>if r=true then do let ok ← isTrue c X.env (eval c X.env); pure (ForInStep.yield ok) else pure (ForInStep.yield r)) (TP (xat X ca [] F0) pins σ Q) (fun _ _=>False) s
theorem Qdb {X:Cx} {ca:Nat->Addr}:PIf ca X [] Yj:=by
 intro pins s σ H Q I ⟨_,_,μ,R,p⟩
 rw [List.forIn_nil]
 exact wpAny_pure ⟨H,I,p H μ .refl R.g⟩
theorem QjP {X:Cx} {ca:Nat->Addr} {c:Expr} {m:MT} (h:PT3 ca X c m):PIf ca X [c] m:=by
 intro pins s σ H Q I q
 exact wpAny_tests_one (noX (h [] F0 pins s σ H Q I q))
end L3
end
section
namespace L3
open PySem PySem.Spec PyProof.Rows L2
section
variable {X:Cx} {ca:Nat->Addr} {pn:List (Addr×Obj)}
theorem QjQ {scope:Scope} {Nb:List Str} {no:Nat} {cap:List Nat} {cl:List (Str×Addr)} {pins:List (Addr×Obj)} {σ:L2.St} {H:Hp} {s:Shared} {ex:List Addr} (B:BScope X scope Nb no cap) (hcl:clOf X.env.cells scope.names []=some cl)
  (I:Inv (xat X ca pn F0) pins σ H s) (hex:∀ b∈ex,FpOk (xat X ca pn F0) pins H b) (hlt:∀ b∈ex,b<s.heap.objs.size):(xat (blk X scope cl s.heap.objs.size Nb s H ex) ca [] F0).Ok where
 mod:=I.ok.mod
 kind:=B.kind
 glob:=I.ok.glob
 blt:=I.ok.blt
 above:=Nat.le_refl _
 inj:=fun x y c h1 h2=>I.ok.inj x y c (Yc _ _ _ hcl (fun _ _ z=>by cases z) x c h1) (Yc _ _ _ hcl (fun _ _ z=>by cases z) y c h2)
 has:=fun x hx=>Qaj _ _ _ hcl x (.inl (QaE (by
  rcases hx with hx | hx
  ·exact YM B.cell hx (.inl rfl)
  ·exact YM B.cell hx (.inr rfl))))
 cab:=fun _ _ z=>by cases z
 hd:=I.ok.hd
 frames:=I.ok.frames
 stk:=.inl rfl
 exf:=fun b hb=>⟨Nat.ne_of_lt (hlt b hb),fun x c e z=>(hex b hb).2.2.2.2.1 x c (Yc _ _ _ hcl (fun _ _ z=>by cases z) x c e) z⟩
 bs:=I.bs
 bsz:=Nat.le_trans I.ok.bsz I.sz
 noex:=fun b o e hb=>by
  rcases(hex b hb).2.2.2.1 with z | z
  ·exact I.ok.noex b o e z
  ·exact absurd (Nat.lt_of_lt_of_le (Heap.lt_size e) (Nat.le_trans I.ok.bsz z)) (Nat.lt_irrefl _)
 exfs:=fun b hb z=>by
  rcases List.mem_cons.mp (I.stkSub b z) with e | e
  ·exact(hex b hb).2.1 e
  ·exact(hex b hb).2.2.1 e
 funs:=I.stack
 frf:=I.stkFree
theorem Yo {env:Env}:∀ {names:List (Str×NameKind)} {x:Str},names.lookup x=some .free ->
  (names.map fun(n,k)=>if (k == NameKind.free && env.scope.kind == .function && env.kindOf n == some .cell) then (n,NameKind.cell) else (n,k)).lookup x=some .local->False
 | [],_,h,_=>by cases h
 | (n,k0)::r,x,h,h'=>by
  have ih:=@Yo env r x
  rw [List.map_cons] at h'
  dsimp only at h'
  by_cases hc:(k0 == NameKind.free && env.scope.kind == .function && env.kindOf n == some .cell)=true
  ·rw [if_pos hc] at h'
   cases hx:x == n with
   | true=>simp only [List.lookup,hx] at h'; cases h'
   | false=>simp only [List.lookup,hx] at h h'; exact ih h h'
  ·rw [if_neg hc] at h'
   cases hx:x == n with
   | true=>simp only [List.lookup,hx] at h h'; rw [h'] at h; cases h
   | false=>simp only [List.lookup,hx] at h h'; exact ih h h'
theorem Qgy {K:PySem.W.Frag} {ca:Nat->Addr} {μ2:List Addr} {σ3:S3} {g1:G} {σ:L2.St} {H2:Hp} (no:Nat) (cap:List Nat) (R2:Rep K ca μ2 σ3 g1 σ H2):Rep K ca μ2 (capt no cap σ3) g1 (List.replicate no none++cap.map fun i=>(σ[i]?).getD none) H2:=by
 refine⟨R2.g,?_,fun i d h=>?_⟩
 ·unfold capt
  rw [List.length_append,List.length_append,List.length_replicate,List.length_replicate,List.length_map,List.length_map]
 ·unfold capt at h
  have hi:no≤i:=by
   apply Nat.le_of_not_lt
   intro hlt
   rw [List.getElem?_append_left (by simpa using hlt),List.getElem?_replicate,if_pos hlt] at h
   cases h
  rw [List.getElem?_append_right (by simpa using hi),List.length_replicate,List.getElem?_map] at h ⊢
  cases hcp:cap[i - no]? with
  | none=>rw [hcp] at h; cases h
  | some j =>
   rw [hcp] at h
   have h:(σ3[j]?).getD none=some d:=by simpa using h
   have hs:σ3[j]?=some (some d):=by
    cases z:σ3[j]? with
    | none=>rw [z] at h; cases h
    | some w=>rw [z] at h; have h:w=some d:=h; rw [h]
   obtain⟨v,h1,h2⟩:=R2.st j d hs
   exact⟨v,by simp [h1],h2⟩
theorem QcI {tg iter elt:Expr} {ifs:List Expr} {scope:Scope} {pos:Pos} {Nb:List Str} {no:Nat} {cap:List Nat} {cl:List (Str×Addr)} {f:MG} {tc:MT} {me:ME} {src:Src}
  {pins:List (Addr×Obj)} {σ:L2.St} {σ3:S3} {H2:Hp} {s2:Shared} {μ2:List Addr} {g1 g2:G} {ds:List D} {it:Addr} {fp:List Addr} {tn:Nat->Heap->Prop} {J:It} {RR:Value->Addr->Result->Shared->Prop} {E:Value->Shared->Prop}
  (B:BScope X scope Nb no cap) (hc:X.calm=true)
  (hb:∀ cl C s3 H3 ex,PG3 ca (blk X scope cl C Nb s3 H3 ex) tg f∧PIf ca (blk X scope cl C Nb s3 H3 ex) ifs tc∧PE3 ca (blk X scope cl C Nb s3 H3 ex) elt me)
  (hcl:clOf X.env.cells scope.names []=some cl)
  (I2:Inv (xat X ca pn F0) pins σ H2 s2) (T:Turn X.prog X.w X.K tg J fp it tn) (st2:tn 0 s2.heap) (f2:∀ b∈fp,FpOk (xat X ca pn F0) pins H2 b) (R2:Rep X.K ca μ2 σ3 g1 σ H2) (sim:Sim X.K ca μ2 H2 src J)
  (hz:src.top≤SZ) (hL:YK src f tc me (src.top+1) 0 (capt no cap σ3) g1 []=.ok ds g2)
  (fin:∀(D C:Addr) (s':Shared) (H4:Hp) (μ4:List Addr) (accV:List V) (its:List Value) (k:Nat),Inv (xat X ca pn F0) pins σ H4 s'->(∃ m,s'.heap.Ns C m)->FpOk (xat X ca pn F0) pins H4 C->FpOk (xat X ca pn F0) pins H4 D->D≠C ->
   s'.heap.get? D=some { cls:=.type "list",data:=.seq its.toArray k }->Vals accV its->accV.length≤sizeLine->Ext X.K μ2 H2 μ4 H4->GRep X.K ca μ4 H4 g2->Dens X.K μ4 H4 accV ds->RR (.ref D) C (.ok .next) s') :
  wpAny (model X.prog X.w) X.A (newList []) (fun acc s₃=>wpAny (model X.prog X.w) X.A (newFunctionEnv scope X.env.globals cl [] X.env.qual none .none (some X.env)) (fun cenv s₄ =>
   codeAny (model X.prog X.w) X.A (.compStart (.ListComp elt [⟨tg,iter,ifs,0⟩] scope pos) 0 (.ref it) acc { cenv with scope:=relabel scope X.env }) (RR acc cenv.locals) s₄) E s₃) E s2:=by
 refine wpAny_newObj_type (wpAny_newFunctionEnv B.cell (by intro y hy; simp at hy) (fun h₁ hns₁ hsb₁=>?_) B.kind)
 dsimp only at hns₁ hsb₁ ⊢
 generalize hH2:s2.heap.push { cls:=.type "list",dict:=none,data:=.seq ([]:List Value).toArray }=hp at hns₁ hsb₁ ⊢
 have hC:hp.objs.size=s2.heap.objs.size+1:=by rw [← hH2,Heap.size_push]
 have I3:Inv (xat X ca pn F0) pins σ H2 { s2 with heap:=hp }:=by rw [← hH2]; exact I2.kept (t':=s2.toks) fun b o e=>Heap.get?_push_of_some _ e
 have hD3:hp.get? s2.heap.objs.size=some { cls:=.type "list",data:=.seq ([]:List Value).toArray }:=by rw [← hH2]; exact Heap.get?_push_size _ rfl
 have fD:FpOk (xat X ca pn F0) pins H2 s2.heap.objs.size:=I2.fpOk (Nat.le_refl _) (I2.hok.fresh (Nat.le_refl _))
 have fC:FpOk (xat X ca pn F0) pins H2 hp.objs.size:=I3.fpOk (Nat.le_refl _) (I3.hok.fresh (Nat.le_refl _))
 have fplt:∀ b∈fp,b<s2.heap.objs.size:=fun b hb=>by
  obtain⟨o,e,_⟩:=T.obj 0 _ st2 b hb
  exact Heap.lt_size e
 have DnF:s2.heap.objs.size∉fp:=fun h=>Nat.lt_irrefl _ (fplt _ h)
 have DnC:s2.heap.objs.size≠hp.objs.size:=by rw [hC]; exact Nat.ne_of_lt (Nat.lt_succ_self _)
 have exOk:∀ b∈s2.heap.objs.size::fp,FpOk (xat X ca pn F0) pins H2 b:=fun b hb=>by
  rcases List.mem_cons.mp hb with e | e
  ·rw [e]; exact fD
  ·exact f2 b e
 have exLt:∀ b∈s2.heap.objs.size::fp,b<hp.objs.size:=fun b hb=>by
  rcases List.mem_cons.mp hb with e | e
  ·rw [e,hC]; exact Nat.lt_succ_self _
  ·rw [hC]; exact Nat.lt_succ_of_lt (fplt b e)
 have okb:(xat (blk X scope cl hp.objs.size Nb { s2 with heap:=hp } H2 (s2.heap.objs.size::fp)) ca [] F0).Ok:=QjQ (s:={ s2 with heap:=hp }) B hcl I3 exOk exLt
 obtain⟨hgB,hiB,heB⟩:=hb cl hp.objs.size { s2 with heap:=hp } H2 (s2.heap.objs.size::fp)
 have old:∀ b o,hp.get? b=some o->h₁.get? b=some o:=fun b o e=>hsb₁.extBut b o (Nat.ne_of_lt (Heap.lt_size e)) (Heap.get?_push_of_some _ e)
 -- the block's first state
 have Ib:Inv (xat (blk X scope cl hp.objs.size Nb { s2 with heap:=hp } H2 (s2.heap.objs.size::fp)) ca [] F0) [] (List.replicate no none++cap.map fun i=>(σ[i]?).getD none) H2 { s2 with heap:=h₁,toks:=s2.toks+([]:List (Str×Value)).length }:=by
  refine⟨okb,rfl,I3.bare,Un.kept old,⟨_,hns₁,fun i x v h1 h2 h3=>?_⟩,fun x c e=>?_,fC.1,fun x c e=>?_,fun p hp=>absurd (show p∈([]:List (Addr×Obj)) from hp) (by simp),I3.hok.kept old,?_⟩
  ·have hi:no≤i:=by
    apply Nat.le_of_not_lt
    intro hlt
    rw [List.getElem?_append_left (by simpa using hlt),List.getElem?_replicate,if_pos hlt] at h2
    cases h2
   rw [List.getElem?_append_right (by simpa using hi),List.length_replicate,List.getElem?_map] at h2
   cases hcp:cap[i - no]? with
   | none=>rw [hcp] at h2; cases h2
   | some j =>
    rw [hcp] at h2
    have h2:(σ[j]?).getD none=some v:=by simpa using h2
    have hs:σ[j]?=some (some v):=by
     cases z:σ[j]? with
     | none=>rw [z] at h2; cases h2
     | some w=>rw [z] at h2; have h2:w=some v:=h2; rw [h2]
    obtain⟨y,n1,n2,n3,n4,n5⟩:=B.cap (i - no) j hcp
    have e0:no+(i - no)=i:=by omega
    rw [e0] at n1
    have h1:Nb[i]?=some x:=h1
    have hxy:y=x:=Option.some.inj (n1.symm.trans h1)
    subst hxy
    obtain⟨m,hn,hl⟩:=I3.loc
    obtain⟨u,ru,lk⟩:=hl j y v n2 hs n4
    refine⟨u,ru,.inr ⟨?_,?_⟩⟩
    ·rcases h3 with z | z | z
     ·exact(Yo n3 z).elim
     ·exact .inl z
     ·exact .inr z
    ·rcases lk with⟨k1,_⟩ | ⟨_,c,k2,k3⟩
     ·exact absurd k1 n5
     ·obtain⟨c',hc'⟩:=Qaj _ _ _ hcl y (.inl (QaE n3))
      have:=Yc _ _ _ hcl (fun _ _ z=>by cases z) y c' hc'
      have k2:X.env.cells.lookup y=some c:=k2
      have hcc:c'=c:=Option.some.inj (this.symm.trans k2)
      subst hcc
      exact⟨c',hc',k3.keeps old⟩
  ·obtain⟨v,z⟩:=I3.cell x c (Yc _ _ _ hcl (fun _ _ z=>by cases z) x c e)
   exact⟨v,z.keeps old⟩
  ·exact I3.freeC x c (Yc _ _ _ hcl (fun _ _ z=>by cases z) x c e)
  ·rw [List.length_append,List.length_replicate,List.length_map]; exact B.len.symm
 have RbR:=Qgy no cap R2
 have eK:(xat (blk X scope cl hp.objs.size Nb { s2 with heap:=hp } H2 (s2.heap.objs.size::fp)) ca [] F0).K=X.K:=rfl
 have eP:(xat (blk X scope cl hp.objs.size Nb { s2 with heap:=hp } H2 (s2.heap.objs.size::fp)) ca [] F0).prog=X.prog:=rfl
 have eW:(xat (blk X scope cl hp.objs.size Nb { s2 with heap:=hp } H2 (s2.heap.objs.size::fp)) ca [] F0).w=X.w:=rfl
 have eA:(xat (blk X scope cl hp.objs.size Nb { s2 with heap:=hp } H2 (s2.heap.objs.size::fp)) ca [] F0).A=X.A:=rfl
 have eE:(xat (blk X scope cl hp.objs.size Nb { s2 with heap:=hp } H2 (s2.heap.objs.size::fp)) ca [] F0).env=compEnvC scope cl hp.objs.size X.env:=rfl
 have eC:(xat (blk X scope cl hp.objs.size Nb { s2 with heap:=hp } H2 (s2.heap.objs.size::fp)) ca [] F0).calm=true:=hc
 have eX:∀ b∈s2.heap.objs.size::fp,b∈(xat (blk X scope cl hp.objs.size Nb { s2 with heap:=hp } H2 (s2.heap.objs.size::fp)) ca [] F0).ex:=fun b hb=>hb
 have eN:∀ {pl:List (Addr×Obj)} {p:Addr×Obj},p∈(xat (blk X scope cl hp.objs.size Nb { s2 with heap:=hp } H2 (s2.heap.objs.size::fp)) ca [] F0).pn++pl->p∈pl:=fun h=>h
 have toUn:∀ {pl:List (Addr×Obj)} {σ':L2.St} {H':Hp} {s':Shared},Inv (xat (blk X scope cl hp.objs.size Nb { s2 with heap:=hp } H2 (s2.heap.objs.size::fp)) ca [] F0) pl σ' H' s'->Un (frs (xat X ca pn F0).stack) (s2.heap.objs.size::fp) H2 H' hp s'.heap:=fun I=>I.base
 have toOs:∀ {pl:List (Addr×Obj)} {σ':L2.St} {H':Hp} {s':Shared},Inv (xat (blk X scope cl hp.objs.size Nb { s2 with heap:=hp } H2 (s2.heap.objs.size::fp)) ca [] F0) pl σ' H' s'->s'.os=s2.os:=fun I=>I.os
 generalize blk X scope cl hp.objs.size Nb { s2 with heap:=hp } H2 (s2.heap.objs.size::fp)=Xb at okb hgB hiB heB Ib eK eP eW eA eE eC eX eN toUn toOs
 -- the iterator's records,through the block
 have FpB:∀ {H:Hp} {pl:List (Addr×Obj)},(∀ b∈fp,H b=none)->(∀ p∈pl,p.1∉fp)->∀ b∈fp,FpOk (xat Xb ca [] F0) pl H b:=fun {H pl} hn hpl b hb=>by
  have e0:=okb.exf b (eX b (List.mem_cons_of_mem _ hb))
  refine⟨hn b hb,e0.1,?_,.inl (eX b (List.mem_cons_of_mem _ hb)),e0.2,fun p hp z=>?_⟩
  ·exact okb.exfs b (eX b (List.mem_cons_of_mem _ hb))
  ·have hp':p∈pl:=eN hp
   exact hpl p hp' (z ▸ hb)
 have FpD:∀ {H:Hp},H s2.heap.objs.size=none->FpOk (xat Xb ca [] F0) [] H s2.heap.objs.size:=fun {H} hn=>by
  have e0:=okb.exf s2.heap.objs.size (eX _ List.mem_cons_self)
  refine⟨hn,e0.1,?_,.inl (eX _ List.mem_cons_self),e0.2,fun p hp=>?_⟩
  ·exact okb.exfs s2.heap.objs.size (eX _ List.mem_cons_self)
  ·exact absurd (eN hp) (by simp)
 have st4:tn 0 h₁:=T.keep _ _ _ st2 fun b hb o e=>old b o (by rw [← hH2]; exact Heap.get?_push_of_some _ e)
 -- the invariant
 have loop:∀ s4:Shared,s4 = { s2 with heap:=h₁,toks:=s2.toks+([]:List (Str×Value)).length } ->
   codeAny (model X.prog X.w) X.A (.compLoop (.ListComp elt [⟨tg,iter,ifs,0⟩] scope pos) 0 (.ref it) (.ref s2.heap.objs.size) (compEnvC scope cl hp.objs.size X.env)) (RR (.ref s2.heap.objs.size) hp.objs.size) s4:=by
  rintro s4 rfl
  refine QcH (fun n s'=>∃(i:Nat) (σ4:S3) (g4:G) (μ4:List Addr) (σ5:L2.St) (H4:Hp) (acc:List D) (accV:List V) (its:List Value) (k:Nat),Inv (xat Xb ca [] F0) [] σ5 H4 s'∧tn i s'.heap∧(∀ b∈fp,H4 b=none)∧H4 s2.heap.objs.size=none ∧
   s'.heap.get? s2.heap.objs.size=some { cls:=.type "list",data:=.seq its.toArray k }∧Vals accV its∧Ext X.K μ2 H2 μ4 H4∧Rep X.K ca μ4 σ4 g4 σ5 H4∧Dens X.K μ4 H4 accV acc∧YK src f tc me n i σ4 g4 acc=.ok ds g2 ∧
   acc.length≤i∧i+n≤SZ+1) ?_ (src.top+1) ⟨0,capt no cap σ3,g1,μ2,_,H2,[],[],[],_,Ib,st4,fun b hb=>(f2 b hb).1,fD.1,old _ _ hD3,.nil,.refl,RbR,.nil,hL,Nat.le_refl _,by omega⟩
  rintro n s5 ⟨i,σ4,g4,μ4,σ5,H4,acc,accV,its,k,I5,st5,fr5,frD,hD5,va,e5,R5,da,hl5,ha5,hn5⟩
  cases n with
  | zero=>cases hl5
  | succ n =>
   unfold YK at hl5
   have s1:=sim i H4 μ4 g4 e5 R5.g
   have pinD:Inv (xat Xb ca [] F0) [(s2.heap.objs.size,{ cls:=.type "list",data:=.seq its.toArray k })] σ5 H4 s5:=I5.pins_of fun p hp=>by
    rw [List.mem_singleton.mp hp]
    have z:=FpD frD
    exact⟨hD5,frD,z.2.1,z.2.2.1,fun v q=>by cases q⟩
   have nofp:∀ p∈[(s2.heap.objs.size,({ cls:=.type "list",data:=.seq its.toArray k }:Obj))],p.1∉fp:=fun p hp=>by rw [List.mem_singleton.mp hp]; exact DnF
   have getD:∀ {σ':L2.St} {H':Hp} {s':Shared} {pl:List (Addr×Obj)},Inv (xat Xb ca [] F0) ([(s2.heap.objs.size,({ cls:=.type "list",data:=.seq its.toArray k }:Obj))]++pl) σ' H' s'->s'.heap.get? s2.heap.objs.size=some { cls:=.type "list",data:=.seq its.toArray k }∧H' s2.heap.objs.size=none:=fun {σ' H' s' pl} I'=>by
    have z:=I'.pin (s2.heap.objs.size,{ cls:=.type "list",data:=.seq its.toArray k }) (List.mem_append_right _ (List.mem_append_left _ (List.mem_singleton.mpr rfl)))
    exact⟨z.1,z.2.1⟩
   cases hat:src.at' g4 i with
   | none=>rw [hat] at hl5; cases hl5
   | some od =>
    rw [hat] at hl5 s1
    cases od with
    | none =>
     cases hl5
     have dn:=T.done (xat Xb ca [] F0) eP eW eK eC i _ s5 σ5 H4 (fun _ _=>False) pinD (FpB fr5 nofp) st5 s1
     rw [eA] at dn
     refine thn dn fun r s6 ⟨hr,I6⟩=>?_
     subst hr
     obtain⟨hD6,frD6⟩:=getD (pl:=[]) (by rw [List.append_nil]; exact I6)
     have un:Un (frs (xat X ca pn F0).stack) (s2.heap.objs.size::fp) H2 H4 hp s6.heap:=toUn I6
     have hok:HOk (xat X ca pn F0).prog (xat X ca pn F0).w H4 s6.heap:=by have:=I6.hok; rw [eP,eW] at this; exact this
     have os:s6.os=s2.os:=toOs I6
     have I7:Inv (xat X ca pn F0) pins σ H4 s6:=Inv.call' (s':=s6) (ch:=s2.heap.objs.size::fp) I3 os un hok I6.bare fun b hb=>⟨(exOk b hb).2.2.2.1,(exOk b hb).2.1,(exOk b hb).2.2.2.2.1,(exOk b hb).2.2.2.2.2⟩
     have hCn:H4 hp.objs.size=none:=by have:=I6.free; rw [eE] at this; exact this
     have nsC:∃ m,s6.heap.Ns hp.objs.size m:=by obtain⟨m,hm,_⟩:=I6.loc; rw [eE] at hm; exact⟨m,hm⟩
     refine fin _ _ s6 H4 μ4 accV its k I7 nsC (FpOk.mono fC hCn) (FpOk.mono fD frD6) DnC hD6 va ?_ e5 R5.g da
     rw [da.length]
     have:=Z5
     omega
    | some d =>
     obtain⟨go,yl⟩:=s1
     dsimp only at hl5
     cases hf:f d σ4 with
     | none=>rw [hf] at hl5; cases hl5
     | some σ6 =>
      rw [hf] at hl5
      dsimp only at hl5
      have im:=T.item (xat Xb ca [] F0) eP eW eK eC i _ s5 σ5 H4 (fun _ _=>False) pinD (FpB fr5 nofp) st5 go
      rw [eA] at im
      refine thn im fun r s6 ⟨u,hr,h6⟩=>?_
      subst hr
      refine thn h6 fun _ s7 ⟨x,H7,I7,r7,y7,st7,fr7⟩=>?_
      obtain⟨e7,g7,q7⟩:=yl x H7 y7
      have I7':=I7.pinned (FpB fr7 nofp) (T.obj _ _ st7)
      have R7:=R5.go e7 g7
      have asg:=hgB [] F0 _ s7 σ5 H7 x u (fun σ' H'=>H'=H7∧Rep X.K ca μ4 σ6 g4 σ' H7) I7' r7 (by
       have:Xb.K=X.K:=eK
       rw [this]
       exact⟨σ4,g4,μ4,d,σ6,R7,q7,hf,fun σ' R'=>⟨rfl,R'⟩⟩)
      rw [eP,eW,eA,eE] at asg
      refine thn (noX asg) fun _ s8 ⟨σ8,H8,I8,e8,R8⟩=>?_
      subst e8
      cases ht:tc σ6 g4 with
      | raise _ _=>rw [ht] at hl5; cases hl5
      | stuck=>rw [ht] at hl5; cases hl5
      | ok b g9 =>
       rw [ht] at hl5
       have hl5:(if b=true then (match me σ6 g9 with | .ok y g2=>YK src f tc me n (i+1) σ6 g2 (acc++[y]) | _=>.stuck) else YK src f tc me n (i+1) σ6 g9 acc)=.ok ds g2:=hl5
       have tst:=hiB _ s8 σ8 _ (fun b' H'=>b'=b∧∃ μ9,Ext X.K μ4 H8 μ9 H'∧Rep X.K ca μ9 σ6 g9 σ8 H') I8 (by
        have:Xb.K=X.K:=eK
        rw [this]
        refine⟨σ6,g4,μ4,R8,?_⟩
        rw [ht]
        exact fun H' μ' e' r'=>⟨rfl,μ',e',R8.go e' r'⟩)
       have eP':Xb.prog=X.prog:=eP
       have eW':Xb.w=X.w:=eW
       have eA':Xb.A=X.A:=eA
       have eE':Xb.env=compEnvC scope cl hp.objs.size X.env:=eE
       rw [eP',eW',eA',eE'] at tst
       refine thn tst fun ok s9 ⟨H9,I9,eb,μ9,e9,R9⟩=>?_
       subst eb
       have again:∀ {σ':L2.St} {H':Hp} {s':Shared},Inv (xat Xb ca [] F0) ([(s2.heap.objs.size,({ cls:=.type "list",data:=.seq its.toArray k }:Obj))]++Qck fp s7.heap) σ' H' s'->Inv (xat Xb ca [] F0) [] σ' H' s'∧tn (i+1) s'.heap∧∀ b∈fp,H' b=none:=fun {σ' H' s'} I'=>by
        refine⟨I'.pins_of fun p hp=>absurd hp (by simp),T.keep _ _ _ st7 fun b hb o e=>(I'.pin (b,o) (List.mem_append_right _ (List.mem_append_right _ (Y0 hb e)))).1,fun b hb=>?_⟩
        obtain⟨o,e,_⟩:=T.obj _ _ st7 b hb
        exact(I'.pin (b,o) (List.mem_append_right _ (List.mem_append_right _ (Y0 hb e)))).2.1
       cases ok with
       | false =>
        rw [if_neg Bool.false_ne_true] at hl5 ⊢
        obtain⟨J1,J2,J3⟩:=again I9
        obtain⟨K1,K2⟩:=getD I9
        refine⟨n,Nat.lt_succ_self n,i+1,σ6,g9,μ9,σ8,H9,acc,accV,its,k,J1,J2,J3,K2,K1,va,(e5.trans e7).trans e9,R9,(da.mono e7).mono e9,hl5,by omega,by omega⟩
       | true =>
        rw [if_pos rfl] at hl5 ⊢
        cases hm:me σ6 g9 with
        | raise _ _=>rw [hm] at hl5; cases hl5
        | stuck=>rw [hm] at hl5; cases hl5
        | ok y g10 =>
         rw [hm] at hl5
         have hl5:YK src f tc me n (i+1) σ6 g10 (acc++[y])=.ok ds g2:=hl5
         have el:=heB [] F0 _ s9 σ8 H9 (fun vy H'=>∃ μ10,Ext X.K μ9 H9 μ10 H'∧Rep X.K ca μ10 σ6 g10 σ8 H'∧Den X.K μ10 H' vy y) I9 (by
          have:Xb.K=X.K:=eK
          rw [this]
          refine⟨σ6,g9,μ9,R9,?_⟩
          rw [hm]
          exact fun v H' μ' e' r' q'=>⟨μ',e',R9.go e' r',q'⟩)
         rw [eP,eW,eA,eE] at el
         refine thn (noX el) fun uy s10 ⟨vy,H10,I10,ry,μ10,e10,R10,qy⟩=>?_
         obtain⟨K1,K2⟩:=getD I10
         obtain⟨J1,J2,J3⟩:=again I10
         have hlen:its.length=acc.length:=by rw [← va.length,da.length]
         refine call_meets F.slot_list_append ⟨_,K1,rfl⟩ F.entry_list_append (F.args_list_append_2 _ _) (PySem.list_append s2.heap.objs.size its.toArray k uy (by rw [List.size_toArray,sizeLine_eq]; have:SZ=1000000:=rfl; omega)) ⟨K1,?_⟩
         have up:=PySem.IsL.update K1 (·.push uy)
         rw [show its.toArray.push uy=(its++[uy]).toArray by simp] at up
         have upo:∀ b o,b≠s2.heap.objs.size->s10.heap.get? b=some o->(s10.heap.update s2.heap.objs.size (Obj.mapSeq (·.push uy))).get? b=some o:=fun b o hb e=>(Heap.get?_update_other s10.heap (Obj.mapSeq (·.push uy)) (Ne.symm hb)).trans e
         obtain⟨d0,d1,d2,d3,d4,d5⟩:=FpD K2
         refine⟨n,Nat.lt_succ_self n,i+1,σ6,g10,μ10,σ8,H10,acc++[y],accV++[vy],its++[uy],_,J1.turned (t':=s10.toks) upo d0 d1 d3 d4 d5,T.keep _ _ _ J2 fun b hb o e=>upo b o (fun z=>DnF (z ▸ hb)) e,J3,K2,up,va.append (.cons ry .nil),
          ((e5.trans e7).trans e9).trans e10,R10,((da.mono e7).mono e9).mono e10 |>.append (.cons qy .nil),hl5,by rw [List.length_append,List.length_singleton]; omega,by omega⟩
 exact codeAny_compStart_list (loop _ rfl) (T.self _ 0 _ _ _ st4 (loop _ rfl))
end
end L3
end
section
namespace L3
open PySem PySem.Spec PyProof.Rows L2
section
variable {X:Cx} {ca:Nat->Addr}
theorem Qgz {K:PySem.W.Frag} {Φ:XS} {σ:L2.St} {Q:VK} {H:Hp} {μ:List Addr} {mi:MI} {no:Nat} {cap:List Nat} {f:MG} {tc:MT} {me:ME} {σ3:S3} {g:G} (p:Post K ca Φ σ Q H μ (Ya mi no cap f tc me σ3 g)) :
  ∃ src g1 ds g2,mi σ3 g=.ok src g1∧src.top≤SZ∧YK src f tc me (src.top+1) 0 (capt no cap σ3) g1 []=.ok ds g2∧Post K ca Φ σ Q H μ (.ok (.ref g2.length) (g2++[.lst ds])):=by
 unfold Ya at p
 cases hm:mi σ3 g with
 | raise _ _=>rw [hm] at p; exact p.elim
 | stuck=>rw [hm] at p; exact p.elim
 | ok src g1 =>
  rw [hm] at p
  dsimp only at p
  by_cases hz:src.top≤SZ
  ·rw [if_pos hz] at p
   cases hL:YK src f tc me (src.top+1) 0 (capt no cap σ3) g1 [] with
   | raise _ _=>rw [hL] at p; exact p.elim
   | stuck=>rw [hL] at p; exact p.elim
   | ok ds g2=>rw [hL] at p; exact⟨src,g1,ds,g2,rfl,hz,hL,p⟩
  ·rw [if_neg hz] at p; exact p.elim
theorem QaF {tg iter elt:Expr} {ifs:List Expr} {scope:Scope} {pos:Pos} {Nb:List Str} {no:Nat} {cap:List Nat} {mi:MI} {f:MG} {tc:MT} {me:ME}
  (B:BScope X scope Nb no cap) (hc:X.calm=true) (hi:PI3 ca X tg iter mi)
  (hb:∀ cl C s3 H3 ex,PG3 ca (blk X scope cl C Nb s3 H3 ex) tg f∧PIf ca (blk X scope cl C Nb s3 H3 ex) ifs tc∧PE3 ca (blk X scope cl C Nb s3 H3 ex) elt me)
  (hs:∀ x,foldedSetIterable iter X.env x=pure x:=by intro _; rfl):PE3 ca X (.ListComp elt [⟨tg,iter,ifs,0⟩] scope pos) (Ya mi no cap f tc me):=by
 intro pn Φ pins s σ H Q I' ⟨σ3,g,μ,R,p⟩
 obtain⟨src,g1,ds,g2,hm,hz,hL,p⟩:=Qgz p
 have I:Inv (xat X ca pn F0) pins σ H s:=Inv.wish I' _
 suffices hh:wpAny (model X.prog X.w) X.A (eval (.ListComp elt [⟨tg,iter,ifs,0⟩] scope pos) X.env) (EP (xat X ca pn F0) pins σ Q) (fun _ _=>False) s from
  wpAny_mono hh (fun u s' ⟨v,H',J,r,q⟩=>⟨v,H',Inv.wish J _,r,q⟩) fun _ _ z=>z.elim
 obtain⟨cl,hcl⟩:=Jy (cells:=X.env.cells) scope.names [] fun y hy hf=>I.ok.has y.1 (B.free y hy hf)
 rw [eval_ListComp]
 refine wpAny_comprehension_free (env:=X.env) (use:=none) rfl hs (Jx hcl) B.kind B.loc ?_
 refine thn (noX (hi pn F0 pins s σ H (fun J H'=>∃ μ',Ext X.K μ H μ' H'∧GRep X.K ca μ' H' g1∧Sim X.K ca μ' H' src J) I ⟨σ3,g,μ,R,?_⟩)) fun v s1 h1=>thn (noX h1) fun itv s2 h2=>?_
 ·rw [hm]
  exact fun J H' μ' e r sm=>⟨μ',e,r,sm⟩
 ·obtain⟨it,fp,tn,J,H2,e,I2,T,st2,f2,μ2,e2,r2,sim⟩:=h2
  subst e
  refine QcI (X:=X) (pn:=pn) (RR:=fun acc C=>compPost (model X.prog X.w) X.A (fun _ _=>False) none (EP (xat X ca pn F0) pins σ Q) acc C) B hc hb hcl I2 T st2 f2 (R.go e2 r2) sim hz hL ?_
  intro D C s' H4 μ4 accV its k I4 nsC fC fD dc hD va hl e4 r4 da
  obtain⟨m,nsC⟩:=nsC
  refine⟨m,nsC,fun h'' hs''=>?_⟩
  have I5:Inv (xat X ca pn F0) pins σ H4 { s' with heap:=h'' }:=I4.turned (t':=s'.toks) (fun b o hb e=>hs''.extBut b o hb e) fC.1 fC.2.1 fC.2.2.2.1 fC.2.2.2.2.1 fC.2.2.2.2.2
  have hD':=hs''.extBut _ _ dc hD
  have I6:=Inv.track (o:=.lst accV) I5 fD ⟨hl,its,k,va,hD'⟩
  refine⟨.ref D,_,I6,rfl,p _ _ (μ4++[D]) ((e2.trans e4).trans (QD fD.1)) (r4.push fD.1 ⟨accV,Qt,da.mono (QD fD.1)⟩) (.ref ?_)⟩
  rw [← r4.len]; simp
theorem QcJ (i:Nat) {x:Str} {py spos:Pos} {tg iter elt:Expr} {ifs:List Expr} {scope:Scope} {pos:Pos} {Nb:List Str} {no:Nat} {cap:List Nat} {mi:MI} {f:MG} {tc:MT} {me:ME}
  (hN:X.N.Nodup) (B:BScope X scope Nb no cap) (hc:X.calm=true) (hi:PI3 ca X tg iter mi)
  (hb:∀ cl C s3 H3 ex,PG3 ca (blk X scope cl C Nb s3 H3 ex) tg f∧PIf ca (blk X scope cl C Nb s3 H3 ex) ifs tc∧PE3 ca (blk X scope cl C Nb s3 H3 ex) elt me)
  (hs:∀ x,foldedSetIterable iter X.env x=pure x:=by intro _; rfl) (hn:X.N[i]?=some x:=by rfl) (hx:Loc X.env.scope x:=by first | exact Or.inl rfl | exact Or.inr rfl)
  (hf:X.fn x=true∨X.env.scope.names.lookup x=some .local:=by first | exact .inl rfl | exact .inr rfl)
  (hsw:swapsWith (.ListComp elt [⟨tg,iter,ifs,0⟩] scope pos) (some (.Name x py)) spos.line X.env=pure true:=by rfl) :
  PS3 ca X (.Assign [.Name x py] (.ListComp elt [⟨tg,iter,ifs,0⟩] scope pos) spos) (mAsg (gSet i) (Ya mi no cap f tc me)):=by
 intro pn Φ pins s σ H En I' ⟨σ3,g,μ,R,p⟩
 have pp:∃ src g1 ds g2,mi σ3 g=.ok src g1∧src.top≤SZ∧YK src f tc me (src.top+1) 0 (capt no cap σ3) g1 []=.ok ds g2∧PostS X.K ca Φ En H μ (.nx (σ3.set i (some (.ref g2.length))) (g2++[.lst ds])):=by
  unfold mAsg Ya gSet at p
  cases hm:mi σ3 g with
  | raise _ _=>rw [hm] at p; exact p.elim
  | stuck=>rw [hm] at p; exact p.elim
  | ok src g1 =>
   rw [hm] at p
   dsimp only at p
   by_cases hz:src.top≤SZ
   ·rw [if_pos hz] at p
    cases hL:YK src f tc me (src.top+1) 0 (capt no cap σ3) g1 [] with
    | raise _ _=>rw [hL] at p; exact p.elim
    | stuck=>rw [hL] at p; exact p.elim
    | ok ds g2=>rw [hL] at p; exact⟨src,g1,ds,g2,rfl,hz,hL,p⟩
   ·rw [if_neg hz] at p; exact p.elim
 obtain⟨src,g1,ds,g2,hm,hz,hL,p⟩:=pp
 have I:Inv (xat X ca pn F0) pins σ H s:=Inv.wish I' _
 suffices hh:wpAny (model X.prog X.w) X.A (exec (.Assign [.Name x py] (.ListComp elt [⟨tg,iter,ifs,0⟩] scope pos) spos) X.env) (SP (xat X ca pn F0) pins En) (fun _ _=>False) s from
  wpAny_mono hh (fun u s' z=>SP.unwish (X:=xat X ca pn Φ) (E:=(xat X ca pn F0).xe) z) fun _ _ z=>z.elim
 obtain⟨cl,hcl⟩:=Jy (cells:=X.env.cells) scope.names [] fun y hy hf=>I.ok.has y.1 (B.free y hy hf)
 rw [exec_Assign_Name_used _ _ _ _ hsw]
 refine wpAny_bind (wpAny_standAt (wpAny_bind ?_))
 show wpAny _ _ (do let _ ← comprehension (.ListComp elt [⟨tg,iter,ifs,0⟩] scope pos) scope X.env _ (newList []) false (eval iter X.env) (some (assign (.Name x py) X.env))) _ _ s
 refine wpAny_bind (wpAny_mono (wpAny_comprehension_free (env:=X.env) (use:=some (assign (.Name x py) X.env)) (Q:=fun _ s'=>SP (xat X ca pn F0) pins En .next s') rfl hs (Jx hcl) B.kind B.loc ?_) (fun _ s' hq=>wpAny_pure (wpAny_pure hq)) fun _ _ e=>e)
 refine thn (noX (hi pn F0 pins s σ H (fun J H'=>∃ μ',Ext X.K μ H μ' H'∧GRep X.K ca μ' H' g1∧Sim X.K ca μ' H' src J) I ⟨σ3,g,μ,R,?_⟩)) fun v s1 h1=>thn (noX h1) fun itv s2 h2=>?_
 ·rw [hm]
  exact fun J H' μ' e r sm=>⟨μ',e,r,sm⟩
 ·obtain⟨it,fp,tn,J,H2,e,I2,T,st2,f2,μ2,e2,r2,sim⟩:=h2
  subst e
  refine QcI (X:=X) (pn:=pn) (RR:=fun acc C=>compPost (model X.prog X.w) X.A (fun _ _=>False) (some (assign (.Name x py) X.env)) (fun _ s'=>SP (xat X ca pn F0) pins En .next s') acc C) B hc hb hcl I2 T st2 f2 (R.go e2 r2) sim hz hL ?_
  intro D C s' H4 μ4 accV its k I4 nsC fC fD dc hD va hl e4 r4 da
  obtain⟨m,oC,es,ep,hoC,hdC,kk⟩:=nsC
  have I4':Inv (xat X ca pn F0) (pins++[(C,oC)]) σ H4 s':=I4.pins_of fun q hq=>by
   rcases List.mem_append.mp hq with z | z
   ·exact I4.pin q (List.mem_append_right _ z)
   ·rw [List.mem_singleton.mp z]
    exact⟨hoC,fC.1,fC.2.1,fC.2.2.1,fun v w=>by rw [show oC.data=_ from hdC] at w; cases w⟩
  have fD':FpOk (xat X ca pn F0) (pins++[(C,oC)]) H4 D:=⟨fD.1,fD.2.1,fD.2.2.1,fD.2.2.2.1,fD.2.2.2.2.1,fun q hq=>by
   rcases List.mem_append.mp hq with z | z
   ·exact fD.2.2.2.2.2 q (List.mem_append_left _ z)
   ·rcases List.mem_append.mp z with z | z
    ·exact fD.2.2.2.2.2 q (List.mem_append_right _ z)
    ·rw [List.mem_singleton.mp z]; exact Ne.symm dc⟩
  have I6:=Inv.track (o:=.lst accV) I4' fD' ⟨hl,its,k,va,hD⟩
  show wpAny (model X.prog X.w) X.A (assign (.Name x py) X.env (.ref D)) _ _ s'
  refine wpAny_assign_Name (Qaf (X:=xat X ca pn F0) I6 hN hn hx (v:=.ref D) rfl (fun s'' I7=>?_) hf)
  have pC:=I7.pin (C,oC) (List.mem_append_right _ (List.mem_append_right _ (List.mem_singleton.mpr rfl)))
  refine⟨m,⟨oC,es,ep,pC.1,hdC,kk⟩,fun h'' hs''=>?_⟩
  have I8:Inv (xat X ca pn F0) pins (σ.set i (some (.ref D))) (upd H4 D (.lst accV)) { s'' with heap:=h'' } :=
   (I7.pins_of (pins':=pins) fun q hq=>I7.pin q (List.mem_append_right _ (List.mem_append_left _ hq))).turned (t':=s''.toks) (fun b o hb e=>hs''.extBut b o hb e) (by rw [Qw (Ne.symm dc)]; exact fC.1) fC.2.1 fC.2.2.2.1 fC.2.2.2.2.1 fC.2.2.2.2.2
  refine⟨_,_,I8,p _ _ (μ4++[D]) ((e2.trans e4).trans (QD fD.1)) (Rep.set ((R.go (e2.trans e4) r4).go (QD fD.1) (r4.push (o:=.lst accV) (u:=.lst ds) fD.1 ⟨accV,Qt,da.mono (QD fD.1)⟩)) (.ref ?_) i)⟩
  rw [← r4.len]; simp
end
end L3
end
section
namespace L3
open PySem PySem.Spec PyProof.Rows L2
section
variable {X:Cx} {ca:Nat->Addr} {a b:Expr} {ma mb:ME} {pos:Pos}
theorem QgA:OpR X (binaryOp .Add) (fun x y H Q=>∃ a b ys,x=.ref a∧y=.ref b∧SqT X.K H a []∧SqT X.K H b ys∧Q (.ref b) H):=by
 intro pins s σ H x y v u Q I rx ry h
 obtain⟨a,b,ys,rfl,rfl,ha,hb,q⟩:=h
 cases rx
 cases ry
 obtain⟨us,r1,p1,_⟩:=I.tuple ha
 obtain⟨ts,r2,p2,_⟩:=I.tuple hb
 cases r1
 obtain⟨⟨cls,dd,data,sl⟩,ho,hc,n,hd⟩:=id p1
 obtain⟨⟨cls2,dd2,data2,sl2⟩,ho2,hc2,n2,hd2⟩:=id p2
 simp only at hc hd hc2 hd2
 subst hc hd hc2 hd2
 exact concat_meets ⟨_,ho,rfl⟩ ⟨_,ho2,rfl⟩ noFill_tuple_add seq_tuple_add PySem.F.slot_tuple_add PySem.F.entry_tuple_add (PySem.F.args_tuple_add_2 _ _)
   (tuple_addW0 a b _ _ n n2 dd dd2 sl sl2 (by simp)) ⟨ho,ho2,⟨.ref b,H,I,rfl,q⟩⟩
theorem QgB {K:PySem.W.Frag}:Je K ca (fun x y H Q=>(((∃ i j,x=.int i∧y=.int j∧Q (.int (i+j)) H)∨Qjt K x y H Q)∨rCat x y H Q)∨(∃ a b ys,x=.ref a∧y=.ref b∧SqT K H a []∧SqT K H b ys∧Q (.ref b) H)) pAdd:=by
 intro Φ σ H μ g x y dx dy Q r qx qy p
 unfold pAdd at p
 cases qx with
 | int i =>
  cases qy with
  | int j=>exact .inl (.inl (.inl ⟨i,j,rfl,rfl,p _ H μ .refl r (.int _)⟩))
  | _=>exact p.elim
 | @tup ax xs dsx hx hsx =>
  cases qy with
  | @tup ay ys dsy hy hsy =>
   dsimp only at p
   by_cases z:dsx.length+dsy.length≤SZ
   ·rw [if_pos z] at p
    by_cases hx0:dsx=[]
    ·subst hx0
     cases hsx
     exact .inr ⟨ax,ay,ys,rfl,rfl,hx,hy,p _ H μ .refl r (.tup hy hsy)⟩
    ·refine .inl (.inl (.inr ⟨ax,ay,xs,ys,rfl,rfl,hx,hy,?_,by rw [hsx.length,hsy.length]; exact Nat.le_trans z Z5,fun e=>?_,fun _ t ht=>p _ _ μ (QU ht) (r.new ht) (.tup (.of Qt) ((hsx.append hsy).mono (QU ht)))⟩))
     ·rintro rfl
      cases hsx
      exact hx0 rfl
     ·subst e
      cases hsy
      rw [List.append_nil] at p
      exact p _ H μ .refl r (.tup hx hsx)
   ·rw [if_neg z] at p; exact p.elim
  | _=>exact p.elim
 | @ref n an hn =>
  cases qy with
  | @ref m am hm =>
   dsimp only at p
   cases hg:g[n]? with
   | none=>rw [hg] at p; exact p.elim
   | some o =>
    cases hg2:g[m]? with
    | none=>rw [hg,hg2] at p; cases o <;> exact p.elim
    | some o2 =>
     rw [hg,hg2] at p
     obtain⟨a1,ha1,or1⟩:=r.addr hg
     obtain⟨a2,ha2,or2⟩:=r.addr hg2
     rw [hn] at ha1; cases ha1
     rw [hm] at ha2; cases ha2
     cases o with
     | lst xs =>
      cases o2 with
      | lst ys =>
       dsimp only at p
       obtain⟨vs,hH,q⟩:=or1
       obtain⟨ws,hH2,q2⟩:=or2
       by_cases z:xs.length+ys.length≤SZ
       ·rw [if_pos z] at p
        refine .inl (.inr ⟨an,am,vs,ws,rfl,rfl,hH,hH2,by rw [q.length,q2.length]; exact Nat.le_trans z Z5,fun t ht=>p _ _ (μ++[t]) (QD ht) (r.push ht ⟨_,Qt,(q.append q2).mono (QD ht)⟩) (.ref ?_)⟩)
        rw [← r.len]; simp
       ·rw [if_neg z] at p; exact p.elim
      | _=>exact p.elim
     | _=>cases o2 <;> exact p.elim
  | _=>exact p.elim
 | _=>cases qy <;> exact p.elim
theorem ZT (ha:PE3 ca X a ma) (hb:PE3 ca X b mb):PE3 ca X (.BinOp a .Add b pos) (mOp2 pAdd ma mb) :=
 Qfg (fun _ _=>((op_add.or QhZ).or QjA).or QgA) QgB ha hb
theorem Qfm {K:PySem.W.Frag} {C:Int->Int->Prop} {h:Int->Int->V} {f:D->D->G->Res D} (hf:∀ Φ σ i j g Q H μ,GRep K ca μ H g->Post K ca Φ σ Q H μ (f (.int i) (.int j) g)->C i j∧Q (h i j) H)
  (hn:∀ Φ σ x y g Q H μ,Post K ca Φ σ Q H μ (f x y g)->∃ i j,x=.int i∧y=.int j):Je K ca (rI C h) f:=by
 intro Φ σ H μ g x y dx dy Q r qx qy p
 obtain⟨i,j,rfl,rfl⟩:=hn Φ σ dx dy g Q H μ p
 cases qx
 cases qy
 obtain⟨c,q⟩:=hf Φ σ i j g Q H μ r p
 exact⟨i,j,rfl,rfl,c,q⟩
theorem QdM {K:PySem.W.Frag} {h:Int->Int->V} {f:D->D->G->Res D} (hf:∀ Φ σ i j g Q H μ,GRep K ca μ H g->Post K ca Φ σ Q H μ (f (.int i) (.int j) g)->Q (h i j) H)
  (hn:∀ Φ σ x y g Q H μ,Post K ca Φ σ Q H μ (f x y g)->∃ i j,x=.int i∧y=.int j):Je K ca (rI0 h) f:=by
 intro Φ σ H μ g x y dx dy Q r qx qy p
 obtain⟨i,j,rfl,rfl⟩:=hn Φ σ dx dy g Q H μ p
 cases qx
 cases qy
 exact⟨i,j,rfl,rfl,hf Φ σ i j g Q H μ r p⟩
theorem Qak {K:PySem.W.Frag} {f:D->D->G->Res D} (h:∀ x y g,(∃ i j,x=D.int i∧y=D.int j)∨f x y g=.stuck) (Φ:XS) (σ:L2.St) (x y:D) (g:G) (Q:VK) (H:Hp) (μ:List Addr) (p:Post K ca Φ σ Q H μ (f x y g)):∃ i j,x=.int i∧y=.int j:=by
 rcases h x y g with z | z
 ·exact z
 ·rw [z] at p; exact p.elim
theorem Qib (ha:PE3 ca X a ma) (hb:PE3 ca X b mb):PE3 ca X (.BinOp a .Sub b pos) (mOp2 pSub ma mb) :=
 Qfg (fun _ _=>Qjl) (QdM (fun Φ σ i j g Q H μ r p=>p _ H μ .refl r (.int _)) (Qak fun x y g=>by cases x <;> cases y <;> first | exact .inl ⟨_,_,rfl,rfl⟩ | exact .inr rfl)) ha hb
theorem ZC (ha:PE3 ca X a ma) (hb:PE3 ca X b mb):PE3 ca X (.BinOp a .FloorDiv b pos) (mOp2 QK ma mb) :=
 Qfg (fun _ _=>QhS) (Qfm (fun Φ σ i j g Q H μ r p=>by
  unfold QK at p
  by_cases z:0<j∧j<1073741824
  ·dsimp only at p; rw [if_pos z] at p; exact⟨z,p _ H μ .refl r (.int _)⟩
  ·dsimp only at p; rw [if_neg z] at p; exact p.elim) (Qak fun x y g=>by cases x <;> cases y <;> first | exact .inl ⟨_,_,rfl,rfl⟩ | exact .inr rfl)) ha hb
theorem Za (ha:PE3 ca X a ma) (hb:PE3 ca X b mb):PE3 ca X (.BinOp a .Mod b pos) (mOp2 pMod ma mb) :=
 Qfg (fun _ _=>Qjm) (Qfm (fun Φ σ i j g Q H μ r p=>by
  unfold pMod at p
  by_cases z:0<j
  ·dsimp only at p; rw [if_pos z] at p; exact⟨z,p _ H μ .refl r (.int _)⟩
  ·dsimp only at p; rw [if_neg z] at p; exact p.elim) (Qak fun x y g=>by cases x <;> cases y <;> first | exact .inl ⟨_,_,rfl,rfl⟩ | exact .inr rfl)) ha hb
theorem Dens.rep {K:PySem.W.Frag} {μ:List Addr} {H:Hp} {vs:List V} {ds:List D} (h:Dens K μ H vs ds):∀ k:Nat,Dens K μ H (List.replicate k vs).flatten (List.replicate k ds).flatten
 | 0=>.nil
 | k+1=>by rw [List.replicate_succ,List.replicate_succ,List.flatten_cons,List.flatten_cons]; exact h.append (Dens.rep h k)
theorem QgC {K:PySem.W.Frag}:Je K ca (fun x y H Q=>(∃ i j,x=.int i∧y=.int j∧(cM i∨cM j)∧Q (.int (i*j)) H)∨QjB K x y H Q) pMul:=by
 intro Φ σ H μ g x y dx dy Q r qx qy p
 unfold pMul at p
 cases qx with
 | int i =>
  cases qy with
  | int j =>
   dsimp only at p
   by_cases z:cM i∨cM j
   ·rw [if_pos z] at p; exact .inl ⟨i,j,rfl,rfl,z,p _ H μ .refl r (.int _)⟩
   ·rw [if_neg z] at p; exact p.elim
  | _=>exact p.elim
 | @tup ax xs ds hx hsx =>
  cases qy with
  | int k =>
   dsimp only at p
   by_cases z:(0≤k∧k<1073741824)∧ds.length*k.toNat≤SZ
   ·rw [if_pos z] at p
    refine .inr ⟨ax,k,xs,rfl,rfl,hx,z.1.1,by omega,by rw [hsx.length]; exact Nat.le_trans z.2 Z5,fun e=>?_,fun _ _ t ht=>p _ _ μ (QU ht) (r.new ht) (.tup (.of Qt) ((hsx.rep k.toNat).mono (QU ht)))⟩
    have e2:(List.replicate k.toNat ds).flatten=ds:=by
     rcases e with e | e
     ·subst e; cases hsx; simp
     ·subst e; simp
    rw [e2] at p
    exact p _ H μ .refl r (.tup hx hsx)
   ·rw [if_neg z] at p; exact p.elim
  | _=>exact p.elim
 | _=>cases qy <;> exact p.elim
theorem QcK (ha:PE3 ca X a ma) (hb:PE3 ca X b mb):PE3 ca X (.BinOp a .Mult b pos) (mOp2 pMul ma mb) :=
 Qfg (fun _ _=>op_mul.or Qh3) QgC ha hb
theorem QbL (ha:PE3 ca X a ma):PE3 ca X (.UnaryOp .USub a pos) (mOp1 pNeg ma) :=
 r_un (fun _ _=>Qjn) (fun Φ σ H μ g x dx Q r qx p=>by
  cases qx with
  | int i=>exact⟨i,rfl,p _ H μ .refl r (.int _)⟩
  | _=>exact p.elim) ha
theorem Qal {K:PySem.W.Frag} (r:Int->Int->Bool):Je K ca (rI0 fun i j=>.bl (r i j)) (pCmp r) :=
 QdM (fun Φ σ i j g Q H μ r p=>p _ H μ .refl r (.bl _)) (Qak fun x y g=>by cases x <;> cases y <;> first | exact .inl ⟨_,_,rfl,rfl⟩ | exact .inr rfl)
theorem r_gt (ha:PE3 ca X a ma) (hb:PE3 ca X b mb):PE3 ca X (.Compare a [.Gt] [b] pos) (mOp2 pGt ma mb):=Qgw (fun _ _=>Qjo) (Qal _) ha hb (J4 b)
theorem r_ge (ha:PE3 ca X a ma) (hb:PE3 ca X b mb):PE3 ca X (.Compare a [.GtE] [b] pos) (mOp2 pGe ma mb):=Qgw (fun _ _=>QkL) (Qal _) ha hb (J4 b)
theorem Qic (ha:PE3 ca X a ma) (hb:PE3 ca X b mb):PT3 ca X (.Compare a [.Lt] [b] pos) (Qp (mOp2 pLt ma mb)):=Jk (fun _ _=>QkK) (Qal _) ha hb (J4 b)
theorem QjR (ha:PE3 ca X a ma) (hb:PE3 ca X b mb):PT3 ca X (.Compare a [.Gt] [b] pos) (Qp (mOp2 pGt ma mb)):=Jk (fun _ _=>Qjo) (Qal _) ha hb (J4 b)
end
end L3
end
section
namespace L3
open PySem PySem.Spec PyProof.Rows L2
section
variable {X:Cx} {ca:Nat->Addr} {pins:List (Addr×Obj)} {σ:L2.St} {H:Hp} {s:Shared} {μ:List Addr} {g:G}
theorem Qam {eq:D->D->Option Bool}:∀(xs ys:List D) (b:Bool),eqGs eq xs ys=some b->∃ e:Nat->Bool,(∀(j:Nat) (x y:D),xs[j]?=some x->ys[j]?=some y->eq x y=some (e j)) ∧
  b=((List.range (min xs.length ys.length)).all e && (xs.length == ys.length))
 | [],[],b,h=>by cases h; exact⟨fun _=>true,fun j x y h=>by simp at h,by simp⟩
 | [],_::ys,b,h=>by cases h; exact⟨fun _=>true,fun j x y h=>by simp at h,by simp⟩
 | _::xs,[],b,h=>by cases h; exact⟨fun _=>true,fun j x y _ h=>by simp at h,by simp⟩
 | x::xs,y::ys,b,h=>by
  unfold eqGs at h
  cases h1:eq x y with
  | none=>rw [h1] at h; cases h
  | some c =>
   cases h2:eqGs eq xs ys with
   | none=>rw [h1,h2] at h; cases h
   | some d =>
    rw [h1,h2] at h
    cases h
    obtain⟨e,e1,e2⟩:=Qam xs ys d h2
    refine⟨fun j=>match j with | 0=>c | j+1=>e j,fun j x' y' hx hy=>?_,?_⟩
    ·cases j with
     | zero =>
      simp at hx hy
      subst hx hy
      exact h1
     | succ j =>
      simp at hx hy
      exact e1 j x' y' hx hy
    ·rw [List.length_cons,List.length_cons,Nat.add_min_add_right,List.range_succ_eq_map,List.all_cons,List.all_map,e2]
     simp [Function.comp_def,Bool.and_assoc]
theorem QbM {A:Around} {eq:D->D->Option Bool} {vs ws:List V} {ds es:List D} {us ts:List Value} {e:Nat->Bool} (qv:Dens X.K μ H vs ds) (qw:Dens X.K μ H ws es) (rv:Vals vs us) (rw':Vals ws ts)
  (he:∀(j:Nat) (x y:D),ds[j]?=some x->es[j]?=some y->eq x y=some (e j))
  (ih:∀ {v w:V} {d d':D} {u t:Value} {b:Bool},Den X.K μ H v d->Den X.K μ H w d'->RelV v u->RelV w t->eq d d'=some b->SeqAt.EqAt A s u t b) :
  ∀(j:Nat) (h1:j<us.toArray.size) (h2:j<ts.toArray.size),SeqAt.EqAt A s us.toArray[j] ts.toArray[j] (e j):=by
 intro j h1 h2
 have l1:j<us.length:=by simpa using h1
 have l2:j<ts.length:=by simpa using h2
 have l3:j<vs.length:=by rw [rv.length]; exact l1
 have l4:j<ws.length:=by rw [rw'.length]; exact l2
 obtain⟨x,hx,qx⟩:=qv.getV (i:=j) (v:=vs[j]) (by simp [l3])
 obtain⟨y,hy,qy⟩:=qw.getV (i:=j) (v:=ws[j]) (by simp [l4])
 obtain⟨u,hu,ru⟩:=rv.get (i:=j) (x:=vs[j]) (by simp [l3])
 obtain⟨t,ht,rt⟩:=rw'.get (i:=j) (x:=ws[j]) (by simp [l4])
 have eu:us.toArray[j]=u:=by
  have:us[j]?=some us[j]:=by simp [l1]
  rw [this] at hu; simpa using hu
 have et:ts.toArray[j]=t:=by
  have:ts[j]?=some ts[j]:=by simp [l2]
  rw [this] at ht; simpa using ht
 rw [eu,et]
 exact ih qx qy ru rt (he j x y hx hy)
theorem Qfn {A:Around} {eq:D->D->Option Bool} {a c:Addr} {vs ws:List V} {ds es:List D} {b:Bool} (hu:A.units<cLine) (I:Inv X pins σ H s) (h1:SqT X.K H a vs) (q1:Dens X.K μ H vs ds) (h2:SqT X.K H c ws) (q2:Dens X.K μ H ws es)
  (ih:∀ {v w:V} {d d':D} {u t:Value} {b:Bool},Den X.K μ H v d->Den X.K μ H w d'->RelV v u->RelV w t->eq d d'=some b->SeqAt.EqAt A.in1 s u t b) (h:eqGs eq ds es=some b):SeqAt.RcAt A s (.ref a) (.ref c) b:=by
 obtain⟨us,r1,p1,_⟩:=I.tuple h1
 obtain⟨ts,r2,p2,_⟩:=I.tuple h2
 obtain⟨e,e1,e2⟩:=Qam ds es b h
 have q:=SeqAt.RcAt.tuples (A:=A) p1 p2 hu (e:=e) (QbM q1 q2 r1 r2 e1 ih)
 have l1:us.toArray.size=ds.length:=by rw [List.size_toArray,← r1.length,q1.length]
 have l2:ts.toArray.size=es.length:=by rw [List.size_toArray,← r2.length,q2.length]
 rw [l1,l2] at q
 rw [e2]
 exact q
theorem Qid {A:Around} {eq:D->D->Option Bool} {a c:Addr} {vs ws:List V} {ds es:List D} {b:Bool} (hu:A.units<cLine) (I:Inv X pins σ H s) (h1:SqL X.K H a vs) (q1:Dens X.K μ H vs ds) (h2:SqL X.K H c ws) (q2:Dens X.K μ H ws es)
  (ih:∀ {v w:V} {d d':D} {u t:Value} {b:Bool},Den X.K μ H v d->Den X.K μ H w d'->RelV v u->RelV w t->eq d d'=some b->SeqAt.EqAt A.in1 s u t b) (h:(if ds.length=es.length then eqGs eq ds es else some false)=some b):SeqAt.RcAt A s (.ref a) (.ref c) b:=by
 obtain⟨us,r1,p1,_⟩:=I.list h1
 obtain⟨ts,r2,p2,_⟩:=I.list h2
 have l1:us.toArray.size=ds.length:=by rw [List.size_toArray,← r1.length,q1.length]
 have l2:ts.toArray.size=es.length:=by rw [List.size_toArray,← r2.length,q2.length]
 by_cases hl:ds.length=es.length
 ·rw [if_pos hl] at h
  obtain⟨e,e1,e2⟩:=Qam ds es b h
  have q:=SeqAt.RcAt.lists (A:=A) p1.isList p2.isList (by rw [l1,l2,hl]) hu (e:=e) (QbM q1 q2 r1 r2 e1 ih)
  rw [l1] at q
  rw [e2,← hl,Nat.min_self]
  simpa using q
 ·rw [if_neg hl] at h
  cases h
  exact SeqAt.RcAt.lists_lengths p1.isList p2.isList (by rw [l1,l2]; simpa using hl) hu
theorem QcL {K:PySem.W.Frag} {μ:List Addr} {H:Hp}:∀ {vs:List V} {ds:List D} {ns:List Int},Dens K μ H vs ds->QcB ds=some ns->vs=ns.map V.int
 | _,_,ns,.nil,h=>by cases h; rfl
 | _,_,ns,.cons (ds:=ds) h1 h2,h=>by
  cases h1 with
  | int i =>
   unfold QcB at h
   cases hr:QcB ds with
   | none=>rw [hr] at h; cases h
   | some ms=>rw [hr] at h; cases h; rw [List.map_cons,QcL h2 hr]
  | _=>cases h
theorem QdN (I:Inv X pins σ H s):∀(f:Nat) {v:V} {d e:D} {b:Bool},Den X.K μ H v d->Den X.K μ H v e->eqI f d e=some b->b=true
 | 0,v,d,e,b,h1,h2,h=>by
  cases h1 with
  | int i=>cases h2; cases h; simp
  | _=>cases h
 | f+1,v,d,e,b,h1,h2,h=>by
  cases h1 with
  | int i=>cases h2; cases h; simp
  | tup t1 q1 =>
   cases h2 with
   | tup t2 q2 =>
    have ev:=I.tuple_inj t1 t2
    subst ev
    have h:eqGs (eqI f) _ _=some b:=h
    have key:∀ {vs:List V} {ds es:List D} {b:Bool},Dens X.K μ H vs ds->Dens X.K μ H vs es->eqGs (eqI f) ds es=some b->b=true:=by
     intro vs
     induction vs with
     | nil=>intro ds es b a1 a2 a3; cases a1; cases a2; cases a3; rfl
     | cons w ws ih =>
      intro ds es b a1 a2 a3
      cases a1 with
      | cons c1 c2=>cases a2 with
       | cons c3 c4 =>
        rename_i x xs y ys
        unfold eqGs at a3
        cases h1:eqI f x y with
        | none=>rw [h1] at a3; cases a3
        | some b1 =>
         cases h2:eqGs (eqI f) xs ys with
         | none=>rw [h1,h2] at a3; cases a3
         | some b2 =>
          rw [h1,h2] at a3
          cases a3
          rw [QdN I f c1 c3 h1,ih c2 c4 h2]; rfl
    exact key q1 q2 h
   | _=>cases h
  | _=>cases h2 <;> cases h
theorem Qfo (I:Inv X pins σ H s):∀(f:Nat) {A:Around} {v w:V} {d e:D} {u t:Value} {b:Bool},A.units+f<cLine->Den X.K μ H v d->Den X.K μ H w e->RelV v u->RelV w t->eqI f d e=some b->SeqAt.EqAt A s u t b
 | 0,A,v,w,d,e,u,t,b,hu,qv,qw,rv,rw',h=>by
  cases qv with
  | int i =>
   cases qw with
   | int j=>obtain⟨y,rfl⟩:=rv; obtain⟨z,rfl⟩:=rw'; cases h; exact SeqAt.EqAt.int_int _ _ _ _
   | _=>cases h
  | _=>cases h
 | f+1,A,v,w,d,e,u,t,b,hu,qv,qw,rv,rw',h=>by
  cases qv with
  | int i =>
   cases qw with
   | int j=>obtain⟨y,rfl⟩:=rv; obtain⟨z,rfl⟩:=rw'; cases h; exact SeqAt.EqAt.int_int _ _ _ _
   | _=>cases h
  | tup h1 q1 =>
   cases qw with
   | tup h2 q2 =>
    cases rv; cases rw'
    rename_i a1 vs ds a2 ws es
    by_cases ea:a1=a2
    ·subst ea
     rw [QdN I (f+1) (.tup h1 q1) (.tup h2 q2) h]
     exact SeqAt.EqAt.same _
    ·exact SeqAt.EqAt.of_refs ea (Qfn (by omega) I h1 q1 h2 q2 (fun a1 a2 a3 a4 a5=>Qfo I f (by show A.units+1+f<cLine; omega) a1 a2 a3 a4 a5) h)
   | _=>cases h
  | _=>cases qw <;> cases h
noncomputable def rEqI (K:PySem.W.Frag):R2:=fun x y H Q=>∃(μ:List Addr) (a c:Addr) (vs ws:List V) (ds es:List D) (b:Bool),x=.ref a∧y=.ref c∧Dens K μ H vs ds∧Dens K μ H ws es∧((SqT K H a vs∧SqT K H c ws∧eqGs (eqI 2) ds es=some b)∨(SqL K H a vs∧SqL K H c ws∧(if ds.length=es.length then eqGs (eqI 2) ds es else some false)=some b))∧Q (.bl b) H
theorem Qhr (hu:X.A.units+16<cLine):OpR X (compareOp .Eq) (rEqI X.K):=by
 intro pins s σ H x y v u Q I rx ry h
 obtain⟨μ,a,c,vs,ws,ds,es,b,rfl,rfl,q1,q2,h,q⟩:=h
 cases rx; cases ry
 have ih:∀ {v w:V} {d d':D} {u t:Value} {b:Bool},Den X.K μ H v d->Den X.K μ H w d'->RelV v u->RelV w t->eqI 2 d d'=some b->SeqAt.EqAt X.A.in1 s u t b:=fun a1 a2 a3 a4 a5=>Qfo I 2 (by show X.A.units+1+2<cLine; omega) a1 a2 a3 a4 a5
 rcases h with⟨h1,h2,h3⟩ | ⟨h1,h2,h3⟩
 ·exact(Qfn (A:=X.A) (by omega) I h1 q1 h2 q2 ih h3) _ _ _ _ ⟨.bl b,H,I,rfl,q⟩
 ·exact(Qid (A:=X.A) (by omega) I h1 q1 h2 q2 ih h3) _ _ _ _ ⟨.bl b,H,I,rfl,q⟩
theorem Qfp {K:PySem.W.Frag}:Je K ca (fun x y H Q=>rEq x y H Q∨rEqI K x y H Q) pEq:=by
 intro Φ σ H μ g x y dx dy Q r qx qy p
 unfold pEq eqT at p
 cases qx with
 | int i =>
  cases qy with
  | int j=>exact .inl ⟨rfl,by rw [QbG]; exact p _ H μ .refl r (.bl _)⟩
  | _=>exact p.elim
 | str i =>
  cases qy with
  | str j=>exact .inl ⟨rfl,by rw [Qc5]; exact p _ H μ .refl r (.bl _)⟩
  | _=>exact p.elim
 | bl i =>
  cases qy with
  | bl j=>exact .inl ⟨rfl,by rw [Qdz]; exact p _ H μ .refl r (.bl _)⟩
  | _=>exact p.elim
 | tup h1 q1 =>
  cases qy with
  | tup h2 q2 =>
   rename_i a vs ds c ws es
   dsimp only at p
   cases e:eqGs (eqI 2) ds es with
   | none=>rw [e] at p; exact p.elim
   | some b=>rw [e] at p; exact .inr ⟨μ,a,c,vs,ws,ds,es,b,rfl,rfl,q1,q2,.inl ⟨h1,h2,e⟩,p _ H μ .refl r (.bl _)⟩
  | _=>exact p.elim
 | @ref n a hn =>
  cases qy with
  | @ref m c hm =>
   dsimp only at p
   cases hg:g[n]? with
   | none=>rw [hg] at p; exact p.elim
   | some o1 =>
    cases hg2:g[m]? with
    | none=>rw [hg,hg2] at p; cases o1 <;> exact p.elim
    | some o2 =>
     rw [hg,hg2] at p
     obtain⟨b1,hb1,ob1⟩:=r.addr hg
     obtain⟨b2,hb2,ob2⟩:=r.addr hg2
     rw [hn] at hb1; cases hb1
     rw [hm] at hb2; cases hb2
     cases o1 with
     | lst xs =>
      cases o2 with
      | lst ys =>
       obtain⟨vs,hH1,q1⟩:=ob1
       obtain⟨ws,hH2,q2⟩:=ob2
       dsimp only at p
       cases e:(if xs.length=ys.length then eqGs (eqI 2) xs ys else some false) with
       | none=>rw [e] at p; exact p.elim
       | some b=>rw [e] at p; exact .inr ⟨μ,a,c,vs,ws,xs,ys,b,rfl,rfl,q1,q2,.inr ⟨.of hH1,.of hH2,e⟩,p _ H μ .refl r (.bl _)⟩
      | _=>exact p.elim
     | _=>cases o2 <;> exact p.elim
  | _=>exact p.elim
 | _=>cases qy <;> exact p.elim
theorem Qfq {A:Around} {eq:D->D->Option Bool} {a c:Addr} {vs ws:List V} {ds es:List D} {b:Bool} (hu:A.units<cLine) (I:Inv X pins σ H s) (h1:SqL X.K H a vs) (q1:Dens X.K μ H vs ds) (h2:SqL X.K H c ws) (q2:Dens X.K μ H ws es)
  (ih:∀ {v w:V} {d d':D} {u t:Value} {b:Bool},Den X.K μ H v d->Den X.K μ H w d'->RelV v u->RelV w t->eq d d'=some b->SeqAt.EqAt A.in1 s u t b) (h:(if ds.length=es.length then eqGs eq ds es else some false)=some b):SeqAt.RcNeAt A s (.ref a) (.ref c) (!b):=by
 obtain⟨us,r1,p1,_⟩:=I.list h1
 obtain⟨ts,r2,p2,_⟩:=I.list h2
 have l1:us.toArray.size=ds.length:=by rw [List.size_toArray,← r1.length,q1.length]
 have l2:ts.toArray.size=es.length:=by rw [List.size_toArray,← r2.length,q2.length]
 by_cases hl:ds.length=es.length
 ·rw [if_pos hl] at h
  obtain⟨e,e1,e2⟩:=Qam ds es b h
  have q:=SeqAt.RcNeAt.lists (A:=A) p1.isList p2.isList (by rw [l1,l2,hl]) hu (e:=e) (QbM q1 q2 r1 r2 e1 ih)
  rw [l1] at q
  rw [e2,← hl,Nat.min_self]
  simpa using q
 ·rw [if_neg hl] at h
  cases h
  exact SeqAt.RcNeAt.lists_lengths p1.isList p2.isList (by rw [l1,l2]; simpa using hl) hu
noncomputable def rNeI (K:PySem.W.Frag):R2:=fun x y H Q=>∃(μ:List Addr) (a c:Addr) (vs ws:List V) (ds es:List D) (b:Bool),x=.ref a∧y=.ref c∧Dens K μ H vs ds∧Dens K μ H ws es∧SqL K H a vs∧SqL K H c ws∧(if ds.length=es.length then eqGs (eqI 2) ds es else some false)=some b∧Q (.bl (!b)) H
theorem QjS (hu:X.A.units+16<cLine):OpR X (compareOp .NotEq) (rNeI X.K):=by
 intro pins s σ H x y v u Q I rx ry h
 obtain⟨μ,a,c,vs,ws,ds,es,b,rfl,rfl,q1,q2,h1,h2,h3,q⟩:=h
 cases rx; cases ry
 have ih:∀ {v w:V} {d d':D} {u t:Value} {b:Bool},Den X.K μ H v d->Den X.K μ H w d'->RelV v u->RelV w t->eqI 2 d d'=some b->SeqAt.EqAt X.A.in1 s u t b:=fun a1 a2 a3 a4 a5=>Qfo I 2 (by show X.A.units+1+2<cLine; omega) a1 a2 a3 a4 a5
 exact(Qfq (A:=X.A) (by omega) I h1 q1 h2 q2 ih h3) _ _ _ _ ⟨.bl (!b),H,I,rfl,q⟩
theorem Qie {K:PySem.W.Frag}:Je K ca (fun x y H Q=>rNe x y H Q∨rNeI K x y H Q) pNe:=by
 intro Φ σ H μ g x y dx dy Q r qx qy p
 unfold pNe neT at p
 cases qx with
 | int i =>
  cases qy with
  | int j=>exact .inl ⟨rfl,by rw [QbG]; exact p _ H μ .refl r (.bl _)⟩
  | _=>exact p.elim
 | bl i =>
  cases qy with
  | bl j=>exact .inl ⟨rfl,by rw [Qdz]; exact p _ H μ .refl r (.bl _)⟩
  | _=>exact p.elim
 | @ref n a hn =>
  cases qy with
  | @ref m c hm =>
   dsimp only at p
   cases hg:g[n]? with
   | none=>rw [hg] at p; exact p.elim
   | some o1 =>
    cases hg2:g[m]? with
    | none=>rw [hg,hg2] at p; cases o1 <;> exact p.elim
    | some o2 =>
     rw [hg,hg2] at p
     obtain⟨b1,hb1,ob1⟩:=r.addr hg
     obtain⟨b2,hb2,ob2⟩:=r.addr hg2
     rw [hn] at hb1; cases hb1
     rw [hm] at hb2; cases hb2
     cases o1 with
     | lst xs =>
      cases o2 with
      | lst ys =>
       obtain⟨vs,hH1,q1⟩:=ob1
       obtain⟨ws,hH2,q2⟩:=ob2
       dsimp only at p
       cases e:(if xs.length=ys.length then eqGs (eqI 2) xs ys else some false) with
       | none=>rw [e] at p; exact p.elim
       | some b=>rw [e] at p; exact .inr ⟨μ,a,c,vs,ws,xs,ys,b,rfl,rfl,q1,q2,.of hH1,.of hH2,e,p _ H μ .refl r (.bl _)⟩
      | _=>exact p.elim
     | _=>cases o2 <;> exact p.elim
  | _=>exact p.elim
 | _=>cases qy <;> exact p.elim
end
section
variable {X:Cx} {ca:Nat->Addr} {a b e:Expr} {ma mb me:ME} {pos p:Pos} {k:Nat}
theorem hu16 {A:Around} (hr:Room k A):A.units+16<cLine:=by have:=hr.units; omega
theorem r_eq (hr:Room k X.A) (ha:PE3 ca X a ma) (hb:PE3 ca X b mb):PE3 ca X (.Compare a [.Eq] [b] pos) (mOp2 pEq ma mb):=Qgw (fun pn Φ=>op_eq.or (Qhr (X:=xat X ca pn Φ) (hu16 hr))) Qfp ha hb (J4 b)
theorem Jf (hr:Room k X.A) (ha:PE3 ca X a ma) (hb:PE3 ca X b mb):PT3 ca X (.Compare a [.Eq] [b] pos) (Qp (mOp2 pEq ma mb)):=Jk (fun pn Φ=>op_eq.or (Qhr (X:=xat X ca pn Φ) (hu16 hr))) Qfp ha hb (J4 b)
theorem Qeq (hr:Room k X.A) (ha:PE3 ca X a ma) (hb:PE3 ca X b mb):PT3 ca X (.Compare a [.NotEq] [b] pos) (Qp (mOp2 pNe ma mb)):=Jk (fun pn Φ=>op_ne.or (QjS (X:=xat X ca pn Φ) (hu16 hr))) Qie ha hb (J4 b)
theorem QgD {K:PySem.W.Frag} {μ:List Addr} {H:Hp} {x:V} {d:D} (q:Den K μ H x d):decide (x=.non)=Qh4 d:=by cases q <;> simp [Qh4]
theorem Qif {K:PySem.W.Frag}:Je K ca (fun x y H Q=>y=.non∧Q (.bl (decide (x=.non))) H) pIs:=by
 intro Φ σ H μ g x y dx dy Q r qx qy p
 cases qy with
 | non=>exact⟨rfl,p _ H μ .refl r (by rw [QgD qx]; exact .bl _)⟩
 | _=>exact p.elim
theorem QkT (ha:PE3 ca X a ma) (hb:PE3 ca X b mb):PT3 ca X (.Compare a [.Is] [b] pos) (Qp (mOp2 pIs ma mb)):=Jk (fun _ _=>Qjp) Qif ha hb (J4 b)
theorem QbN {K:PySem.W.Frag} {μ:List Addr} {H:Hp} {vs:List V} {ds:List D} {i:Int} {d:D} (q:Dens K μ H vs ds) (h:atD ds i=some d):∃ v,atI vs i=some v∧Den K μ H v d:=by
 unfold atD at h
 cases hj:ixD ds.length i with
 | none=>rw [hj] at h; cases h
 | some j =>
  rw [hj] at h
  obtain⟨v,h1,h2⟩:=q.get (show ds[j]?=some d from h)
  refine⟨v,?_,h2⟩
  unfold atI
  rw [q.length,show ixN ds.length i=some j from hj]
  exact h1
theorem Qig {K:PySem.W.Frag}:Je K ca (rIx K) pIx:=by
 intro Φ σ H μ g x y dx dy Q r qx qy p
 unfold pIx at p
 cases qx with
 | tup ht hs =>
  cases qy with
  | int i =>
   dsimp only at p
   rename_i a vs ds
   cases h:atD ds i with
   | none=>rw [h] at p; exact p.elim
   | some d =>
    rw [h] at p
    obtain⟨v,h1,h2⟩:=QbN hs h
    exact .inr (.inl ⟨a,vs,i,v,rfl,rfl,ht,h1,p v H μ .refl r h2⟩)
  | _=>exact p.elim
 | fl ht hs =>
  cases qy with
  | int i =>
   dsimp only at p
   rename_i a vs ds
   cases h:atD ds i with
   | none=>rw [h] at p; exact p.elim
   | some d =>
    rw [h] at p
    obtain⟨v,h1,h2⟩:=QbN hs h
    exact .inl ⟨a,vs,i,v,rfl,rfl,ht.sq,h1,p v H μ .refl r h2⟩
  | _=>exact p.elim
 | @ref n a hn =>
  cases qy with
  | int i =>
   dsimp only at p
   cases hg:g[n]? with
   | none=>rw [hg] at p; exact p.elim
   | some o =>
    rw [hg] at p
    obtain⟨a',ha',ob⟩:=r.addr hg
    rw [hn] at ha'; cases ha'
    cases o with
    | lst ds =>
     obtain⟨vs,hH,hs⟩:=ob
     dsimp only at p
     cases h:atD ds i with
     | none=>rw [h] at p; exact p.elim
     | some d =>
      rw [h] at p
      obtain⟨v,h1,h2⟩:=QbN hs h
      exact .inl ⟨a,vs,i,v,rfl,rfl,.of hH,h1,p v H μ .refl r h2⟩
    | _=>exact p.elim
  | _=>exact p.elim
 | str s =>
  cases qy with
  | int i =>
   dsimp only at p
   by_cases z:s.length≤SZ
   ·rw [if_pos z] at p
    cases h:atD s.cps.toList i with
    | none=>rw [h] at p; exact p.elim
    | some c =>
     rw [h] at p
     exact .inr (.inr ⟨s,i,c,rfl,rfl,Nat.le_trans z Z5,h,p _ H μ .refl r (.str _)⟩)
   ·rw [if_neg z] at p; exact p.elim
  | _=>exact p.elim
 | _=>cases qy <;> exact p.elim
theorem Qx (ha:PE3 ca X a ma) (hb:PE3 ca X b mb) (hs:QbH b:=by exact fun _ _=>rfl):PE3 ca X (.Subscript a b pos) (mOp2 pIx ma mb):=r_ix (fun _ _=>Qjv) Qig ha hb hs
theorem Qih {x:Str} {id:String} {r:List V->Hp->VK->Prop} {f:D->G->Res D} (hc:∀ pn Φ,CallR (xat X ca pn Φ) (.builtin id) r) (hm:X.mg x=none) (hv:bootBuiltins x=some (.builtin id))
  (hp:∀(Φ:XS) (σ:L2.St) (H:Hp) (μ:List Addr) (g:G) (y:V) (d:D) (Q:VK),GRep X.K ca μ H g->Den X.K μ H y d->Post X.K ca Φ σ Q H μ (f d g)->r [y] H Q) (he:PE3 ca X e me) (hg:Gl X x) (hn:x ≠ "__name__") (hdb:(x == ("__debug__" : Str))=false)
  (hs:starEach [e] X.env=[(false,eval e X.env)]) (hpl:(backTo pos (starEach [] X.env)).any (·.1)=false):PE3 ca X (.Call (.Name x p) [e] [] pos) (mOp1 f me) :=
 fun pn Φ=>Zn (Ju (X:=xat X ca pn Φ) (hc pn Φ) hg hm hv (Jw he Qk hs pn Φ) hn hdb hs hpl) fun σ H Q hQ=>by
  obtain⟨σ3,g,μ,R,q⟩:=hQ
  refine⟨σ3,g,μ,R,?_⟩
  unfold mOp1 at q
  unfold Qa mNil
  cases hm:me σ3 g with
  | raise _ _=>rw [hm] at q; exact q
  | stuck=>rw [hm] at q; exact q.elim
  | ok d g1 =>
   rw [hm,Res.bind_ok] at q
   rw [Res.bind_ok,Res.bind_ok]
   intro vs H1 μ1 e1 r1 q1
   cases q1 with
   | cons h1 h2 =>
    cases h2
    exact hp Φ σ H1 μ1 g1 _ d Q r1 h1 (q.go e1)
end
end L3
end
section
namespace L3
open PySem PySem.Spec PyProof.Rows L2
section
variable {X:Cx} {ca:Nat->Addr} {a b e o:Expr} {ma mb me mo:ME} {pos p apos:Pos} {k:Nat}
theorem r_ty {x:Str} {T:String} {r:List V->Hp->VK->Prop} {f:D->G->Res D} (hc:∀ pn Φ,CallR (xat X ca pn Φ) (.type T) r) (hm:X.mg x=none) (hv:bootBuiltins x=some (.type T))
  (hp:∀(Φ:XS) (σ:L2.St) (H:Hp) (μ:List Addr) (g:G) (y:V) (d:D) (Q:VK),GRep X.K ca μ H g->Den X.K μ H y d->Post X.K ca Φ σ Q H μ (f d g)->r [y] H Q) (he:PE3 ca X e me) (hg:Gl X x) (hn:x ≠ "__name__") (hdb:(x == ("__debug__" : Str))=false)
  (hs:starEach [e] X.env=[(false,eval e X.env)]) (hpl:(backTo pos (starEach [] X.env)).any (·.1)=false):PE3 ca X (.Call (.Name x p) [e] [] pos) (mOp1 f me) :=
 fun pn Φ=>Zn (Qe2 (X:=xat X ca pn Φ) (hc pn Φ) hg hm hv (Jw he Qk hs pn Φ) hn hdb hs hpl) fun σ H Q hQ=>by
  obtain⟨σ3,g,μ,R,q⟩:=hQ
  refine⟨σ3,g,μ,R,?_⟩
  unfold mOp1 at q
  unfold Qa mNil
  cases hm:me σ3 g with
  | raise _ _=>rw [hm] at q; exact q
  | stuck=>rw [hm] at q; exact q.elim
  | ok d g1 =>
   rw [hm,Res.bind_ok] at q
   rw [Res.bind_ok,Res.bind_ok]
   intro vs H1 μ1 e1 r1 q1
   cases q1 with
   | cons h1 h2 =>
    cases h2
    exact hp Φ σ H1 μ1 g1 _ d Q r1 h1 (q.go e1)
theorem YN (hm:X.mg "len" = none) (he:PE3 ca X e me) (hg:Gl X "len":=by rfl) (hs:starEach [e] X.env=[(false,eval e X.env)]:=by rfl) (hpl:(backTo pos (starEach [] X.env)).any (·.1)=false:=by rfl) :
  PE3 ca X (.Call (.Name "len" p) [e] [] pos) (mOp1 pLen me) :=
 Qih (r:=fun xs H Q=>∃ p ys,xs=[V.ref p]∧(SqL X.K H p ys∨SqT X.K H p ys)∧Q (V.int (ys.length:Int)) H) (fun _ _=>Qct) hm boot_len (fun Φ σ H μ g y d Q r q pp=>by
  unfold pLen at pp
  cases q with
  | @tup t vs ds ht hs=>exact⟨t,vs,rfl,.inr ht,pp _ H μ .refl r (by rw [hs.length]; exact .int _)⟩
  | @fl t vs ds ht hs=>exact⟨t,vs,rfl,.inl ht.sq,pp _ H μ .refl r (by rw [hs.length]; exact .int _)⟩
  | @ref n t hn =>
   dsimp only at pp
   cases hgn:g[n]? with
   | none=>rw [hgn] at pp; exact pp.elim
   | some ob =>
    rw [hgn] at pp
    obtain⟨t',ht',orp⟩:=r.addr hgn
    rw [hn] at ht'; cases ht'
    cases ob with
    | lst ds=>obtain⟨vs,hH,q⟩:=orp; exact⟨t,vs,rfl,.inl (.of hH),pp _ H μ .refl r (by rw [q.length]; exact .int _)⟩
    | _=>exact pp.elim
  | _=>exact pp.elim) he hg (by decide) (by decide) hs hpl
theorem Jm (hm:X.mg "tuple" = none) (he:PE3 ca X e me) (hg:Gl X "tuple":=by rfl) (hs:starEach [e] X.env=[(false,eval e X.env)]:=by rfl) (hpl:(backTo pos (starEach [] X.env)).any (·.1)=false:=by rfl) :
  PE3 ca X (.Call (.Name "tuple" p) [e] [] pos) (mOp1 ZH me) :=
 r_ty (r:=fun xs H Q=>∃ p ys,xs=[V.ref p]∧((SqL X.K H p ys∧∀ l,H l=none->Q (.ref l) (upd H l (.tup ys)))∨(SqT X.K H p ys∧Q (.ref p) H))) (fun _ _=>QbJ) hm boot_tuple (fun Φ σ H μ g y d Q r q pp=>by
  unfold ZH at pp
  cases q with
  | @tup t vs ds ht hs=>exact⟨t,vs,rfl,.inr ⟨ht,pp _ H μ .refl r (.tup ht hs)⟩⟩
  | @fl t vs ds ht hs=>exact⟨t,vs,rfl,.inl ⟨ht.sq,fun l hl=>pp _ _ μ (QU hl) (r.new hl) (.tup (.of Qt) (hs.mono (QU hl)))⟩⟩
  | @ref n t hn =>
   dsimp only at pp
   cases hgn:g[n]? with
   | none=>rw [hgn] at pp; exact pp.elim
   | some ob =>
    rw [hgn] at pp
    obtain⟨t',ht',orp⟩:=r.addr hgn
    rw [hn] at ht'; cases ht'
    cases ob with
    | lst ds=>obtain⟨vs,hH,q⟩:=orp; exact⟨t,vs,rfl,.inl ⟨.of hH,fun l hl=>pp _ _ μ (QU hl) (r.new hl) (.tup (.of Qt) (q.mono (QU hl)))⟩⟩
    | _=>exact pp.elim
  | _=>exact pp.elim) he hg (by decide) (by decide) hs hpl
theorem Qbl (hm:X.mg "list" = none) (he:PE3 ca X e me) (hg:Gl X "list":=by rfl) (hs:starEach [e] X.env=[(false,eval e X.env)]:=by rfl) (hpl:(backTo pos (starEach [] X.env)).any (·.1)=false:=by rfl) :
  PE3 ca X (.Call (.Name "list" p) [e] [] pos) (mOp1 Qaa me) :=
 r_ty (r:=fun xs H Q=>∃ p ys,xs=[V.ref p]∧(SqL X.K H p ys∨SqT X.K H p ys)∧∀ l,H l=none->Q (.ref l) (upd H l (.lst ys))) (fun _ _=>Qcu) hm boot_list (fun Φ σ H μ g y d Q r q pp=>by
  have el:∀ l:Addr,(μ++[l])[g.length]?=some l:=fun l=>by rw [← r.len]; simp
  unfold Qaa at pp
  cases q with
  | @fl t vs ds ht hs=>exact⟨t,vs,rfl,.inl ht.sq,fun l hl=>pp _ _ (μ++[l]) (QD hl) (r.push hl ⟨vs,Qt,hs.mono (QD hl)⟩) (.ref (el l))⟩
  | @tup t vs ds ht hs=>exact⟨t,vs,rfl,.inr ht,fun l hl=>pp _ _ (μ++[l]) (QD hl) (r.push hl ⟨vs,Qt,hs.mono (QD hl)⟩) (.ref (el l))⟩
  | @ref n t hn =>
   dsimp only at pp
   cases hgn:g[n]? with
   | none=>rw [hgn] at pp; exact pp.elim
   | some ob =>
    rw [hgn] at pp
    obtain⟨t',ht',orp⟩:=r.addr hgn
    rw [hn] at ht'; cases ht'
    cases ob with
    | lst ds=>obtain⟨vs,hH,q⟩:=orp; exact⟨t,vs,rfl,.inl (.of hH),fun l hl=>pp _ _ (μ++[l]) (QD hl) (r.push hl ⟨vs,Qt,q.mono (QD hl)⟩) (.ref (el l))⟩
    | _=>exact pp.elim
  | _=>exact pp.elim) he hg (by decide) (by decide) hs hpl
theorem Qii (hm:X.mg "int" = none) (he:PE3 ca X e me) (hg:Gl X "int":=by rfl) (hs:starEach [e] X.env=[(false,eval e X.env)]:=by rfl) (hpl:(backTo pos (starEach [] X.env)).any (·.1)=false:=by rfl) :
  PE3 ca X (.Call (.Name "int" p) [e] [] pos) (mOp1 pInt me) :=
 r_ty (fun _ _=>QeZ) hm boot_int (fun Φ σ H μ g y d Q r q pp=>by
  cases q with
  | int i=>exact .inl ⟨i,rfl,pp _ H μ .refl r (.int _)⟩
  | bl b=>exact .inr ⟨b,rfl,pp _ H μ .refl r (.int _)⟩
  | _=>exact pp.elim) he hg (by decide) (by decide) hs hpl
theorem Y1 (ho:PE3 ca X o mo) (he:PE3 ca X e me) (hbase:attributeBase o "append" X.env (eval o X.env)=eval o X.env:=by rfl)
  (hfew:((backTo pos (starEach [e] X.env)).all (fun x=>!x.1) && (backToKw pos (keywordEach [] X.env)).all (fun x=>x.1.isSome) && decide ([e].length+([]:List Keyword).length+(if ([]:List Keyword).isEmpty then 0 else 1)<30))=true:=by rfl)
  (hline:(apos.endLine == pos.line)=true:=by rfl) (hs:starEach [e] X.env=(false,eval e X.env)::starEach [] X.env:=by rfl) (hplain:(backTo pos (starEach [] X.env)).any (·.1)=false:=by rfl) :
  PE3 ca X (.Call (.Attribute o "append" apos) [e] [] pos) (Yk mo me) :=
 fun pn Φ=>Zn (Qjy (X:=xat X ca pn Φ) PySem.F.plainAttrs_list PySem.F.slot_list_append PySem.F.type_list_append Qe5 (ho pn Φ) (Jw he Qk hs pn Φ) hbase hfew hline hs hplain) fun σ H Q ⟨σ3,g,μ,R,q⟩=>Zr (Qab R q) fun x H1 hQ=>by
  obtain⟨d,g1,μ1,e1,R1,q1,p1⟩:=hQ
  cases q1 with
  | @ref n t hn =>
   dsimp only at p1
   cases hgn:g1[n]? with
   | none=>rw [hgn] at p1; exact p1.elim
   | some ob =>
    rw [hgn] at p1
    obtain⟨t',ht',orp⟩:=R1.g.addr hgn
    rw [hn] at ht'; cases ht'
    cases ob with
    | lst ds0 =>
     obtain⟨vs0,hH0,_⟩:=orp
     dsimp only at p1
     refine⟨.inl ⟨rfl,_,.of hH0⟩,σ3,g1,μ1,R1,?_⟩
     unfold Qa mNil
     cases hm:me σ3 g1 with
     | raise _ _=>rw [hm] at p1; exact p1
     | stuck=>rw [hm] at p1; exact p1.elim
     | ok y g2 =>
      rw [hm,Res.bind_ok] at p1
      rw [Res.bind_ok,Res.bind_ok]
      intro vs H2 μ2 e2 r2 q2
      cases q2 with
      | @cons vy _ _ _ h1 h2 =>
       cases h2
       cases hg2:g2[n]? with
       | none=>rw [hg2] at p1; exact p1.elim
       | some ob2 =>
        rw [hg2] at p1
        obtain⟨t',ht',orp⟩:=r2.addr hg2
        rw [e2.at hn] at ht'; cases ht'
        cases ob2 with
        | lst ds =>
         obtain⟨ws,hH,qs⟩:=orp
         dsimp only at p1
         by_cases z:ds.length<SZ
         ·rw [if_pos z] at p1
          have ex:Ext X.K μ2 H2 μ2 (upd H2 t (.lst (ws++[vy]))):=Jj hH (by intro _ z; cases z) (by intro _ _ z; cases z)
          refine⟨t,ws,_,rfl,rfl,hH,by rw [qs.length]; exact Nat.lt_of_lt_of_le z Z5,p1 _ _ μ2 (e2.trans ex) ?_ .non⟩
          exact r2.set (e2.at hn) hH (by intro _ z; cases z) (by intro _ _ z; cases z) ⟨_,Qt,(qs.mono ex).append (.cons (h1.mono ex) .nil)⟩
         ·rw [if_neg z] at p1; exact p1.elim
        | _=>exact p1.elim
    | _=>exact p1.elim
  | _=>exact p1.elim
end
end L3
end
section
namespace L3
open PySem PySem.Spec PyProof.Rows L2
noncomputable def IsIt (b:Bool) (h:Heap) (i l:Addr) (k:Nat):Prop:=if b=true then h.IsListIter i l k else h.IsTupleIter i l k
noncomputable def IsSq (b:Bool) (h:Heap) (l:Addr) (xs:Array Value):Prop:=if b=true then h.IsList l xs else h.IsTuple l xs
theorem IsIt.at {b:Bool} {h h':Heap} {i l:Addr} {k:Nat} (x:IsIt b h i l k) (hk:∀ o,h.get? i=some o->h'.get? i=some o):IsIt b h' i l k:=by
 cases b
 ·exact Heap.IsTupleIter.at (show h.IsTupleIter i l k from x) hk
 ·exact Heap.IsListIter.at (show h.IsListIter i l k from x) hk
theorem IsSq.at {b:Bool} {h h':Heap} {l:Addr} {xs:Array Value} (x:IsSq b h l xs) (hk:∀ o,h.get? l=some o->h'.get? l=some o):IsSq b h' l xs:=by
 cases b
 ·obtain⟨o,e,c⟩:=(show h.IsTuple l xs from x); exact⟨o,hk o e,c⟩
 ·obtain⟨o,e,c⟩:=(show h.IsList l xs from x); exact⟨o,hk o e,c⟩
theorem IsIt.lt {b:Bool} {h:Heap} {i l:Addr} {k:Nat} (x:IsIt b h i l k):i<h.objs.size:=by
 cases b
 ·obtain⟨o,e,_⟩:=(show h.IsTupleIter i l k from x); exact Heap.lt_size e
 ·obtain⟨o,e,_⟩:=(show h.IsListIter i l k from x); exact Heap.lt_size e
theorem IsIt.rec {b:Bool} {h:Heap} {i l:Addr} {k:Nat} (x:IsIt b h i l k):∃ o,h.get? i=some o∧∀ v,o.data≠.cell v:=by
 cases b
 ·obtain⟨o,e,c,d⟩:=(show h.IsTupleIter i l k from x); exact⟨o,e,fun v z=>by rw [d] at z; cases z⟩
 ·obtain⟨o,e,c,d⟩:=(show h.IsListIter i l k from x); exact⟨o,e,fun v z=>by rw [d] at z; cases z⟩
theorem IsSq.lt {b:Bool} {h:Heap} {l:Addr} {xs:Array Value} (x:IsSq b h l xs):l<h.objs.size:=by
 cases b
 ·obtain⟨o,e,_⟩:=(show h.IsTuple l xs from x); exact Heap.lt_size e
 ·obtain⟨o,e,_⟩:=(show h.IsList l xs from x); exact Heap.lt_size e
section
variable {prog:Program} {w:World} {A:Around} {E:Value->Shared->Prop} {s:Shared}
theorem Qer {it t:Addr} {i:Nat} {items:Array Value} {x:Value} {Q:Value->Shared->Prop} (hit:s.heap.IsTupleIter it t i) (ht:s.heap.IsTuple t items) (hx:items[i]?=some x) (hQ:∀ h',h'.IsTupleIter it t (i+1)->Heap.SameBut it s.heap h'->Q x { s with heap:=h' }) :
  wpAny (model prog w) A (Builtin.SmallTypes.nextOf (.ref it)) Q E s:=by
 obtain⟨o,ho,hc,hd⟩:=id hit; obtain⟨ol,hol,_,nl,hdl⟩:=ht; unfold Builtin.SmallTypes.nextOf
 refine wpAny_bind (wpAny_callSpecial?_slot (name:=Str.ofString "__next__") hit.typeIs F.slot_tuple_iterator_next (wpAny_call_entry F.slot_tuple_iterator_next hit.typeIs F.entry_tuple_iterator_next ?_ (F.args_tuple_iterator_next_1 _)))
 show wpAny _ _ (field (.ref it) 0 >>= _) _ _ s; refine wpAny_bind (wpAny_field ho hd (x:=.ref t) rfl ?_)
 show wpAny _ _ (if (Value.ref t == Value.none)=true then _ else _) _ _ s; rw [if_neg (show ¬ ((Value.ref t == Value.none)=true) from Bool.false_ne_true)]
 show wpAny _ _ (field (.ref it) 1 >>= _) _ _ s; refine wpAny_bind (wpAny_field ho hd (x:=.int i 0) rfl ?_)
 show wpAny _ _ (seqItems? (.ref t) >>= _) _ _ s; refine wpAny_bind (wpAny_seqItems hol hdl ?_); simp only [Int.toNat_natCast,hx]
 refine wpAny_bind (wpAny_setField ho hd (by simp) (wpAny_pure ⟨x,rfl,wpAny_pure (hQ _ ⟨_,Heap.get?_update_self _ ho (Obj.isFreed_of_fields (Obj.data_mapFields hd _)),(Obj.cls_mapFields ..).trans hc,by rw [Obj.data_mapFields hd]; simp [rawInt]⟩ (Heap.SameBut.update ..))⟩))
theorem QbO {it t:Addr} {i:Nat} {items:Array Value} {Q:Value->Shared->Prop} (hh:A.handled=none) (hit:s.heap.IsTupleIter it t i) (ht:s.heap.IsTuple t items) (hx:items[i]?=none)
  (hE:∀ h' e,Heap.ExtBut it s.heap h'->(∃ o,h'.get? e=some o∧o.cls=.type "StopIteration")->E (.ref e) { s with heap:=h' }):wpAny (model prog w) A (Builtin.SmallTypes.nextOf (.ref it)) Q E s:=by
 obtain⟨o,ho,hc,hd⟩:=id hit; obtain⟨ol,hol,_,nl,hdl⟩:=ht; unfold Builtin.SmallTypes.nextOf
 refine wpAny_bind (wpAny_callSpecial?_slot (name:=Str.ofString "__next__") hit.typeIs F.slot_tuple_iterator_next (wpAny_call_entry F.slot_tuple_iterator_next hit.typeIs F.entry_tuple_iterator_next ?_ (F.args_tuple_iterator_next_1 _)))
 show wpAny _ _ (field (.ref it) 0 >>= _) _ _ s; refine wpAny_bind (wpAny_field ho hd (x:=.ref t) rfl ?_)
 show wpAny _ _ (if (Value.ref t == Value.none)=true then _ else _) _ _ s; rw [if_neg (show ¬ ((Value.ref t == Value.none)=true) from Bool.false_ne_true)]
 show wpAny _ _ (field (.ref it) 1 >>= _) _ _ s; refine wpAny_bind (wpAny_field ho hd (x:=.int i 0) rfl ?_)
 show wpAny _ _ (seqItems? (.ref t) >>= _) _ _ s; refine wpAny_bind (wpAny_seqItems hol hdl ?_); simp only [Int.toNat_natCast,hx]
 refine wpAny_bind (wpAny_rule (wpAny_bind (wpAny_setField ho hd (by simp) ?_)))
 show wpAny _ _ (newExc (.type "StopIteration") [] >>= _) _ _ _; refine wpAny_bind ?_; simp only [newExc,newTuple]; refine wpAny_bind (wpAny_newObj_type ?_ (by size_fits))
 refine wpAny_bind (m:=firstArgMember _ _) (wpAny_of_eq (a:=Value.none) (by first | rfl | (simp only [firstArgMember]; rfl)) ?_); refine wpAny_newObj_type ?_ (by size_fits); simp only [raiseNew]
 refine wpAny_bind (wpAny_handled ?_); (first | rw [show A.in1.handled=none from hh] | rw [hh]); refine wpAny_bind (wpAny_pure (wpAny_throw ?_))
 exact hE _ _ (((Heap.SameBut.update ..).extBut.push _).push _) ⟨_,Heap.get?_push_size _ rfl,rfl⟩
theorem Qfr {b:Bool} {it l:Addr} {i:Nat} {xs:Array Value} {x:Value} {Q:Value->Shared->Prop} (hit:IsIt b s.heap it l i) (hl:IsSq b s.heap l xs) (hx:xs[i]?=some x) (hQ:∀ h',IsIt b h' it l (i+1)->Heap.SameBut it s.heap h'->Q x { s with heap:=h' }) :
  wpAny (model prog w) A (Builtin.SmallTypes.nextOf (.ref it)) Q E s:=by
 cases b
 ·exact Qer hit hl hx hQ
 ·exact wpAny_nextOf_list_item hit hl hx hQ
theorem Qfs {b:Bool} {it l:Addr} {i:Nat} {xs:Array Value} {Q:Value->Shared->Prop} (hh:A.handled=none) (hit:IsIt b s.heap it l i) (hl:IsSq b s.heap l xs) (hx:xs[i]?=none)
  (hE:∀ h' e,Heap.ExtBut it s.heap h'->(∃ o,h'.get? e=some o∧o.cls=.type "StopIteration")->E (.ref e) { s with heap:=h' }):wpAny (model prog w) A (Builtin.SmallTypes.nextOf (.ref it)) Q E s:=by
 cases b
 ·exact QbO hh hit hl hx hE
 ·exact wpAny_nextOf_list_end hh hit hl hx hE
theorem Qij {b1 b2:Bool} {z TI TO i1 i2 l1 l2:Addr} {k:Nat} {xs ys:Array Value} {x y a b:Value} {Q:Value->Shared->Prop} (D:ZipApart z TI TO i1 i2 l1 l2)
  (hz:IsZip s.heap z TI TO .none) (hTI:IsPair s.heap TI (.ref i1) (.ref i2)) (hTO:IsPair s.heap TO a b) (h1:IsIt b1 s.heap i1 l1 k) (h2:IsIt b2 s.heap i2 l2 k) (hl1:IsSq b1 s.heap l1 xs) (hl2:IsSq b2 s.heap l2 ys) (hx:xs[k]?=some x) (hy:ys[k]?=some y)
  (hQ:∀ h',IsZip h' z TI TO (rawInt s.heap.objs.size)->IsPair h' TO x y->IsIt b1 h' i1 l1 (k+1)->IsIt b2 h' i2 l2 (k+1)->IsPair h' s.heap.objs.size x y->h'.objs.size=s.heap.objs.size+1 ->
   (∀ c o,c≠z->c≠TO->c≠i1->c≠i2->s.heap.get? c=some o->h'.get? c=some o)->Q (.ref s.heap.objs.size) { s with heap:=h' }) :
  wpAny (model prog w) A (Builtin.«zip.__next__» ⟨[.ref z],[]⟩) (fun fin s'=>∃ v,fin=.done (.ret v)∧Q v s') E s:=by
 show wpAny _ _ (field (.ref z) 2 >>= _) _ _ _; refine wpAny_bind (wpAny_field hz rfl (x:=.bool false) rfl ?_)
 show wpAny _ _ (field (.ref z) 3 >>= _) _ _ _; refine wpAny_bind (wpAny_field hz rfl (x:=.ref TI) rfl ?_); refine wpAny_bind (wpAny_seqItems hTI rfl ?_)
 show wpAny _ _ (Builtin.SmallTypes.ownedTupleIsFree (.ref z) >>= _) _ _ _; refine wpAny_bind ?_; unfold Builtin.SmallTypes.ownedTupleIsFree
 refine wpAny_bind (wpAny_field hz rfl (x:=.none) rfl (wpAny_pure ?_)); simp only [if_true]; refine wpAny_bind (wpAny_rule ?_); refine wpAny_bind (wpAny_field hz rfl (x:=.ref TO) rfl ?_)
 refine wpAny_bind (wpAny_setField_rec hz (by simp) fun g1 hz1 hs1=>?_); replace hz1:IsZip g1 z TI TO .ellipsis:=hz1
 refine wpAny_bind ?_; simp only [List.zipIdx_cons,List.zipIdx_nil,List.forIn_cons,List.forIn_nil]; refine wpAny_bind (wpAny_bind (wpAny_onRaise ?_))
 show wpAny _ _ (Builtin.SmallTypes.nextOf (.ref i1) >>= _) _ _ _
 refine wpAny_bind (Qfr (h1.at fun o e=>hs1.extBut _ o D.i1z e) (hl1.at fun o e=>hs1.extBut _ o D.l1z e) hx fun g2 h12 hs2=>wpAny_pure ?_)
 have hTO2:IsPair g2 TO a b:=hs2.extBut _ _ D.TOi1 (hs1.extBut _ _ D.TOz hTO)
 refine wpAny_bind (wpAny_seqItems hTO2 rfl ?_); refine wpAny_bind (wpAny_updateSeq_pair hTO2 fun g3 hTO3 hs3=>?_); replace hTO3:IsPair g3 TO x b:=hTO3
 refine wpAny_bind (wpAny_letGo (wpAny_pure ?_)); refine wpAny_bind (wpAny_bind (wpAny_onRaise ?_))
 show wpAny _ _ (Builtin.SmallTypes.nextOf (.ref i2) >>= _) _ _ _
 refine wpAny_bind (Qfr (h2.at fun o e=>hs3.extBut _ o D.TOi2.symm (hs2.extBut _ o D.i12.symm (hs1.extBut _ o D.i2z e))) (hl2.at fun o e=>hs3.extBut _ o D.l2TO (hs2.extBut _ o D.l2i1 (hs1.extBut _ o D.l2z e))) hy fun g4 h24 hs4=>wpAny_pure ?_)
 have hTO4:IsPair g4 TO x b:=hs4.extBut _ _ D.TOi2 hTO3
 refine wpAny_bind (wpAny_seqItems hTO4 rfl ?_); refine wpAny_bind (wpAny_updateSeq_pair hTO4 fun g5 hTO5 hs5=>?_); replace hTO5:IsPair g5 TO x y:=hTO5
 refine wpAny_bind (wpAny_letGo (wpAny_pure (wpAny_pure ?_))); refine wpAny_bind (wpAny_seqItems hTO5 rfl ?_); refine wpAny_bind (wpAny_newTuple ?_)
 have hsz:g5.objs.size=s.heap.objs.size:=by rw [hs5.1,hs4.1,hs3.1,hs2.1,hs1.1]
 have hz5:IsZip g5 z TI TO .ellipsis:=hs5.extBut _ _ D.TOz.symm (hs4.extBut _ _ D.i2z.symm (hs3.extBut _ _ D.TOz.symm (hs2.extBut _ _ D.i1z.symm hz1)))
 have hk5:∀ c o,c≠z->c≠TO->c≠i1->c≠i2->s.heap.get? c=some o->g5.get? c=some o:=fun c o c1 c2 c3 c4 e=>hs5.extBut _ _ c2 (hs4.extBut _ _ c4 (hs3.extBut _ _ c2 (hs2.extBut _ _ c3 (hs1.extBut _ _ c1 e))))
 have h15:IsIt b1 g5 i1 l1 (k+1):=h12.at fun o e=>hs5.extBut _ o D.TOi1.symm (hs4.extBut _ o D.i12 (hs3.extBut _ o D.TOi1.symm e))
 have h25:IsIt b2 g5 i2 l2 (k+1):=h24.at fun o e=>hs5.extBut _ o D.TOi2.symm e
 have hzlt:z<g5.objs.size:=Heap.lt_size hz5
 show wpAny _ _ (Builtin.SmallTypes.ownedTupleHandOut (.ref z) (.ref g5.objs.size) >>= _) _ _ _
 refine wpAny_bind ?_; unfold Builtin.SmallTypes.ownedTupleHandOut
 have hz6:IsZip (g5.push { cls:=.type "tuple",data:=.seq #[x,y] }) z TI TO .ellipsis:=Heap.get?_push_of_some _ hz5
 refine wpAny_bind (wpAny_setField_rec hz6 (by simp) fun g7 hz7 hs7=>?_); replace hz7:IsZip g7 z TI TO (rawInt g5.objs.size):=hz7
 refine wpAny_setField_rec hz7 (by simp) fun g8 hz8 hs8=>?_; replace hz8:IsZip g8 z TI TO (rawInt g5.objs.size):=hz8
 have upz:∀ c o,c≠z->g5.get? c=some o->g8.get? c=some o:=fun c o c1 e=>hs8.extBut _ _ c1 (hs7.extBut _ _ c1 (Heap.get?_push_of_some _ e))
 have hT8:IsPair g8 g5.objs.size x y:=hs8.extBut _ _ (Nat.ne_of_gt hzlt) (hs7.extBut _ _ (Nat.ne_of_gt hzlt) (Heap.get?_push_size _ rfl))
 have hsz8:g8.objs.size=g5.objs.size+1:=by rw [hs8.1,hs7.1,Heap.size_push]
 rw [hsz] at hz8 hT8 hsz8; refine wpAny_pure ⟨_,rfl,?_⟩; show Q (.ref g5.objs.size) _; rw [hsz]
 exact hQ g8 hz8 (upz _ _ D.TOz hTO5) (h15.at fun o e=>upz _ o D.i1z e) (h25.at fun o e=>upz _ o D.i2z e) hT8 hsz8 fun c o c1 c2 c3 c4 e=>upz c o c1 (hk5 c o c1 c2 c3 c4 e)
theorem QjT {b1 b2:Bool} {z TI TO i1 i2 l1 l2:Addr} {k:Nat} {xs ys:Array Value} {a b:Value} {Q:Fin->Shared->Prop} (hh:A.handled=none) (D:ZipApart z TI TO i1 i2 l1 l2)
  (hz:IsZip s.heap z TI TO .none) (hTI:IsPair s.heap TI (.ref i1) (.ref i2)) (hTO:IsPair s.heap TO a b) (h1:IsIt b1 s.heap i1 l1 k) (h2:IsIt b2 s.heap i2 l2 k) (hl1:IsSq b1 s.heap l1 xs) (hl2:IsSq b2 s.heap l2 ys) (hend:xs[k]?=none∨ys[k]?=none)
  (hE:∀ h' e,(∀ c o,c≠z->c≠TO->c≠i1->c≠i2->s.heap.get? c=some o->h'.get? c=some o)->(∃ o,h'.get? e=some o∧o.cls=.type "StopIteration")->E (.ref e) { s with heap:=h' }) :
  wpAny (model prog w) A (Builtin.«zip.__next__» ⟨[.ref z],[]⟩) Q E s:=by
 show wpAny _ _ (field (.ref z) 2 >>= _) _ _ _; refine wpAny_bind (wpAny_field hz rfl (x:=.bool false) rfl ?_)
 show wpAny _ _ (field (.ref z) 3 >>= _) _ _ _; refine wpAny_bind (wpAny_field hz rfl (x:=.ref TI) rfl ?_); refine wpAny_bind (wpAny_seqItems hTI rfl ?_)
 show wpAny _ _ (Builtin.SmallTypes.ownedTupleIsFree (.ref z) >>= _) _ _ _; refine wpAny_bind ?_; unfold Builtin.SmallTypes.ownedTupleIsFree
 refine wpAny_bind (wpAny_field hz rfl (x:=.none) rfl (wpAny_pure ?_)); simp only [if_true]; refine wpAny_bind (wpAny_rule ?_); refine wpAny_bind (wpAny_field hz rfl (x:=.ref TO) rfl ?_)
 refine wpAny_bind (wpAny_setField_rec hz (by simp) fun g1 hz1 hs1=>?_); replace hz1:IsZip g1 z TI TO .ellipsis:=hz1
 refine wpAny_bind ?_; simp only [List.zipIdx_cons,List.zipIdx_nil,List.forIn_cons,List.forIn_nil]; refine wpAny_bind (wpAny_bind (wpAny_onRaise ?_))
 show wpAny _ _ (Builtin.SmallTypes.nextOf (.ref i1) >>= _) _ _ _
 cases hx:xs[k]? with
 | none =>
  refine wpAny_bind (Qfs hh (h1.at fun o e=>hs1.extBut _ o D.i1z e) (hl1.at fun o e=>hs1.extBut _ o D.l1z e) hx fun g2 e hs2 he=>?_)
  obtain⟨oe,hoe,hce⟩:=he; have hz2:IsZip g2 z TI TO .ellipsis:=hs2 _ _ D.i1z.symm hz1
  have hez:e≠z:=fun q=>by subst q; rw [hz2] at hoe; cases hoe; simp at hce
  refine wpAny_setField_rec hz2 (by simp) fun g3 _ hs3=>hE g3 e (fun c o c1 _ c3 _ q=>hs3.extBut _ _ c1 (hs2 _ _ c3 (hs1.extBut _ _ c1 q))) ⟨oe,hs3.extBut _ _ hez hoe,hce⟩
 | some x =>
  have hy:ys[k]?=none:=by rcases hend with q | q; (· rw [hx] at q; cases q); exact q
  refine wpAny_bind (Qfr (h1.at fun o e=>hs1.extBut _ o D.i1z e) (hl1.at fun o e=>hs1.extBut _ o D.l1z e) hx fun g2 h12 hs2=>wpAny_pure ?_)
  have hTO2:IsPair g2 TO a b:=hs2.extBut _ _ D.TOi1 (hs1.extBut _ _ D.TOz hTO)
  refine wpAny_bind (wpAny_seqItems hTO2 rfl ?_); refine wpAny_bind (wpAny_updateSeq_pair hTO2 fun g3 hTO3 hs3=>?_); refine wpAny_bind (wpAny_letGo (wpAny_pure ?_)); refine wpAny_bind (wpAny_bind (wpAny_onRaise ?_))
  show wpAny _ _ (Builtin.SmallTypes.nextOf (.ref i2) >>= _) _ _ _
  refine wpAny_bind (Qfs hh (h2.at fun o e=>hs3.extBut _ o D.TOi2.symm (hs2.extBut _ o D.i12.symm (hs1.extBut _ o D.i2z e))) (hl2.at fun o e=>hs3.extBut _ o D.l2TO (hs2.extBut _ o D.l2i1 (hs1.extBut _ o D.l2z e))) hy fun g4 e hs4 he=>?_)
  obtain⟨oe,hoe,hce⟩:=he; have hz4:IsZip g4 z TI TO .ellipsis:=hs4 _ _ D.i2z.symm (hs3.extBut _ _ D.TOz.symm (hs2.extBut _ _ D.i1z.symm hz1))
  have hez:e≠z:=fun q=>by subst q; rw [hz4] at hoe; cases hoe; simp at hce
  refine wpAny_setField_rec hz4 (by simp) fun g5 _ hs5=>hE g5 e (fun c o c1 c2 c3 c4 q=>hs5.extBut _ _ c1 (hs4 _ _ c4 (hs3.extBut _ _ c2 (hs2.extBut _ _ c3 (hs1.extBut _ _ c1 q))))) ⟨oe,hs5.extBut _ _ hez hoe,hce⟩
theorem Qes {b1 b2:Bool} {z TI TO i1 i2 l1 l2:Addr} {k:Nat} {xs ys:Array Value} {x y a b:Value} {Q:Option Value->Shared->Prop} (D:ZipApart z TI TO i1 i2 l1 l2)
  (hz:IsZip s.heap z TI TO .none) (hTI:IsPair s.heap TI (.ref i1) (.ref i2)) (hTO:IsPair s.heap TO a b) (h1:IsIt b1 s.heap i1 l1 k) (h2:IsIt b2 s.heap i2 l2 k) (hl1:IsSq b1 s.heap l1 xs) (hl2:IsSq b2 s.heap l2 ys) (hx:xs[k]?=some x) (hy:ys[k]?=some y)
  (hQ:∀ h',IsZip h' z TI TO (rawInt s.heap.objs.size)->IsPair h' TO x y->IsIt b1 h' i1 l1 (k+1)->IsIt b2 h' i2 l2 (k+1)->IsPair h' s.heap.objs.size x y->h'.objs.size=s.heap.objs.size+1 ->
   (∀ c o,c≠z->c≠TO->c≠i1->c≠i2->s.heap.get? c=some o->h'.get? c=some o)->Q (some (.ref s.heap.objs.size)) { s with heap:=h' }):wpAny (model prog w) A (pyNext (.ref z)) Q E s:=by
 have hT:s.TypeIs (.ref z) "zip":=⟨_,hz,rfl⟩; unfold pyNext
 exact wpAny_bind (wpAny_attempt (wpAny_callSpecial?_slot (name:=Str.ofString "__next__") hT F.slot_zip_next (wpAny_call_entry F.slot_zip_next hT F.entry_zip_next (Qij D hz hTI hTO h1 h2 hl1 hl2 hx hy fun h' a1 a2 a3 a4 a5 a6 a7=>wpAny_pure (hQ h' a1 a2 a3 a4 a5 a6 a7)) (F.args_zip_next_1 _))))
theorem QbP {b1 b2:Bool} {z TI TO i1 i2 l1 l2:Addr} {k:Nat} {xs ys:Array Value} {a b:Value} {Q:Option Value->Shared->Prop} (hh:A.handled=none) (D:ZipApart z TI TO i1 i2 l1 l2)
  (hz:IsZip s.heap z TI TO .none) (hTI:IsPair s.heap TI (.ref i1) (.ref i2)) (hTO:IsPair s.heap TO a b) (h1:IsIt b1 s.heap i1 l1 k) (h2:IsIt b2 s.heap i2 l2 k) (hl1:IsSq b1 s.heap l1 xs) (hl2:IsSq b2 s.heap l2 ys) (hend:xs[k]?=none∨ys[k]?=none)
  (hQ:∀ h',(∀ c o,c≠z->c≠TO->c≠i1->c≠i2->s.heap.get? c=some o->h'.get? c=some o)->Q none { s with heap:=h' }):wpAny (model prog w) A (pyNext (.ref z)) Q E s:=by
 have hT:s.TypeIs (.ref z) "zip":=⟨_,hz,rfl⟩; unfold pyNext
 refine wpAny_bind (wpAny_attempt (wpAny_callSpecial?_slot (name:=Str.ofString "__next__") hT F.slot_zip_next (wpAny_call_entry F.slot_zip_next hT F.entry_zip_next (QjT hh D hz hTI hTO h1 h2 hl1 hl2 hend fun h' e hk he=>?_) (F.args_zip_next_1 _))))
 obtain⟨o,ho,hc⟩:=he; refine wpAny_bind (wpAny_isInstance (T:="StopIteration") (b:=true) ⟨o,ho,hc⟩ isSubtype_stop ?_); exact wpAny_pure (hQ _ hk)
noncomputable def QjU (b:Bool):String:=if b=true then "list_iterator" else "tuple_iterator"
noncomputable def QbQ (b:Bool) (l:Addr):Obj:={ cls:=.type (QjU b),data:=.fields #[.ref l,.int 0 0] }
theorem QcM {b:Bool} {l:Addr} {xs:Array Value} {Q:Value->Shared->Prop} (hl:IsSq b s.heap l xs) (h:Q (.ref s.heap.objs.size) { s with heap:=s.heap.push (QbQ b l) }):wpAny (model prog w) A (pyIter (.ref l)) Q E s:=by
 cases b
 ·exact wpAny_pyIter_tuple hl h
 ·exact wpAny_pyIter_list hl h
theorem IsSq.push {b:Bool} {h:Heap} {l:Addr} {xs:Array Value} (x:IsSq b h l xs) (o:Obj):IsSq b (h.push o) l xs:=x.at fun _ e=>Heap.get?_push_of_some _ e
noncomputable abbrev zH1 (b1:Bool) (h:Heap) (l1:Addr):Heap:=h.push (QbQ b1 l1)
noncomputable abbrev zH2 (b1 b2:Bool) (h:Heap) (l1 l2:Addr):Heap:=(zH1 b1 h l1).push (QbQ b2 l2)
noncomputable abbrev zH3 (b1 b2:Bool) (h:Heap) (l1 l2:Addr):Heap:=(zH2 b1 b2 h l1 l2).push { cls:=.type "tuple",data:=.seq #[.ref h.objs.size,.ref (zH1 b1 h l1).objs.size] }
noncomputable abbrev zH4 (b1 b2:Bool) (h:Heap) (l1 l2:Addr):Heap:=(zH3 b1 b2 h l1 l2).push { cls:=.type "tuple",data:=.seq #[.none,.none] }
noncomputable abbrev zH5 (b1 b2:Bool) (h:Heap) (l1 l2:Addr):Heap:=(zH4 b1 b2 h l1 l2).push { cls:=.type "zip",data:=.fields #[.none,.bool false,.bool false,.ref (zH2 b1 b2 h l1 l2).objs.size,.ref (zH3 b1 b2 h l1 l2).objs.size] }
theorem Qik (b1 b2:Bool) (l1 l2:Addr) (xs ys:Array Value):Meets (Builtin.«zip.__new__» ⟨[.type "zip",.ref l1,.ref l2],[]⟩) (fun _ R s=>IsSq b1 s.heap l1 xs∧IsSq b2 s.heap l2 ys∧R (.ok (.ret (.ref (zH4 b1 b2 s.heap l1 l2).objs.size))) { s with heap:=zH5 b1 b2 s.heap l1 l2 }) :=
 .of_wp fun prog w A R s h=>by
  obtain⟨hp,g,d,tk,os⟩:=s; obtain⟨hl1,hl2,h⟩:=h; have hsub:=sub_zip
  have hL1:IsSq b1 (Shared.heap ⟨hp,g,d,tk,os⟩) l1 xs:=hl1
  have hL2:IsSq b2 (Shared.heap ⟨hp.push (QbQ b1 l1),g,d,tk,os⟩) l2 ys:=hl2.push _
  wp_walk using QcM hL1,QcM hL2
  exact⟨_,rfl,h⟩
theorem itAt (b:Bool) {h:Heap} {i l:Addr} (e:h.get? i=some (QbQ b l)):IsIt b h i l 0:=by
 cases b
 ·exact⟨_,e,rfl,rfl⟩
 ·exact⟨_,e,rfl,rfl⟩
theorem QgE {b1 b2:Bool} {l1 l2:Addr} {xs ys:Array Value} {Q:Value->Shared->Prop} (hl1:IsSq b1 s.heap l1 xs) (hl2:IsSq b2 s.heap l2 ys)
  (h:∀ h',IsZip h' (s.heap.objs.size+4) (s.heap.objs.size+2) (s.heap.objs.size+3) .none->IsPair h' (s.heap.objs.size+2) (.ref s.heap.objs.size) (.ref (s.heap.objs.size+1))->IsPair h' (s.heap.objs.size+3) .none .none ->
   IsIt b1 h' s.heap.objs.size l1 0->IsIt b2 h' (s.heap.objs.size+1) l2 0->h'.objs.size=s.heap.objs.size+5->(∀ c o,s.heap.get? c=some o->h'.get? c=some o)->Q (.ref (s.heap.objs.size+4)) { s with heap:=h' }) :
  wpAny (model prog w) A (call (.type "zip") [.ref l1,.ref l2]) Q E s:=by
 refine callType_new F.called_zip (by decide) (F.typeCall_zip_2 _ _) (F.newCall_zip_2 _ _) (fun obj=>F.args_object_init_3 obj _ _) F.entry_zip_new (Qik b1 b2 l1 l2 xs ys) ⟨hl1,hl2,?_⟩
 have z1:(zH1 b1 s.heap l1).objs.size=s.heap.objs.size+1:=Heap.size_push ..
 have z2:(zH2 b1 b2 s.heap l1 l2).objs.size=s.heap.objs.size+2:=by rw [Heap.size_push,z1]
 have z3:(zH3 b1 b2 s.heap l1 l2).objs.size=s.heap.objs.size+3:=by rw [Heap.size_push,z2]
 have z4:(zH4 b1 b2 s.heap l1 l2).objs.size=s.heap.objs.size+4:=by rw [Heap.size_push,z3]
 have z5:(zH5 b1 b2 s.heap l1 l2).objs.size=s.heap.objs.size+5:=by rw [Heap.size_push,z4]
 have g5:(zH5 b1 b2 s.heap l1 l2).get? (zH4 b1 b2 s.heap l1 l2).objs.size=some _:=Heap.get?_push_size _ rfl
 have g4:(zH5 b1 b2 s.heap l1 l2).get? (zH3 b1 b2 s.heap l1 l2).objs.size=some _:=Heap.get?_push_of_some _ (Heap.get?_push_size _ rfl)
 have g3:(zH5 b1 b2 s.heap l1 l2).get? (zH2 b1 b2 s.heap l1 l2).objs.size=some _:=Heap.get?_push_of_some _ (Heap.get?_push_of_some _ (Heap.get?_push_size _ rfl))
 have g2:(zH5 b1 b2 s.heap l1 l2).get? (zH1 b1 s.heap l1).objs.size=some (QbQ b2 l2):=Heap.get?_push_of_some _ (Heap.get?_push_of_some _ (Heap.get?_push_of_some _ (Heap.get?_push_size _ (by unfold QbQ; rfl))))
 have g1:(zH5 b1 b2 s.heap l1 l2).get? s.heap.objs.size=some (QbQ b1 l1):=Heap.get?_push_of_some _ (Heap.get?_push_of_some _ (Heap.get?_push_of_some _ (Heap.get?_push_of_some _ (Heap.get?_push_size _ (by unfold QbQ; rfl)))))
 show _∧_
 rw [z2,z3,z4] at g5; rw [z1,z2] at g3; rw [z3] at g4; rw [z1] at g2; rw [z4]
 exact⟨⟨_,g5,rfl⟩,h _ g5 g3 g4 (itAt b1 g1) (itAt b2 g2) z5 fun c o q=>Heap.get?_push_of_some _ (Heap.get?_push_of_some _ (Heap.get?_push_of_some _ (Heap.get?_push_of_some _ (Heap.get?_push_of_some _ q))))⟩
end
end L3
end
section
namespace L3
open PySem PySem.Spec PyProof.Rows L2
noncomputable def Sq (b:Bool) (K:PySem.W.Frag) (H:Hp) (a:Addr) (xs:List V):Prop:=if b=true then SqL K H a xs else SqT K H a xs
theorem Sq.real {b:Bool} {X:Cx} {pins:List (Addr×Obj)} {σ:L2.St} {H:Hp} {s:Shared} {a:Addr} {xs:List V} (I:Inv X pins σ H s) (h:Sq b X.K H a xs):∃ its:List Value,Vals xs its∧IsSq b s.heap a its.toArray:=by
 cases b
 ·obtain⟨its,r,p,_⟩:=I.tuple (show SqT X.K H a xs from h); exact⟨its,r,p⟩
 ·obtain⟨its,r,p,_⟩:=I.list (show SqL X.K H a xs from h); exact⟨its,r,p.isList⟩
theorem Sq.inj {b:Bool} {X:Cx} {pins:List (Addr×Obj)} {σ:L2.St} {H:Hp} {s:Shared} {a:Addr} {xs ys:List V} (I:Inv X pins σ H s) (h:Sq b X.K H a xs) (h':Sq b X.K H a ys):xs=ys:=by
 cases b
 ·exact I.tuple_inj h h'
 ·exact I.list_inj h h'
noncomputable def Itz (K:PySem.W.Frag) (b1 b2:Bool) (a1 a2:Addr):It :=
  ⟨fun i H=>∃ xs ys x y,Sq b1 K H a1 xs∧Sq b2 K H a2 ys∧xs[i]?=some x∧ys[i]?=some y,
   fun i H v H'=>∃ p x y,H p=none∧v=.ref p∧H'=upd H p (.tup [x,y])∧(∀ xs,Sq b1 K H a1 xs->xs[i]?=some x)∧∀ ys,Sq b2 K H a2 ys->ys[i]?=some y,
   fun i H=>∃ xs ys,Sq b1 K H a1 xs∧Sq b2 K H a2 ys∧(xs.length≤i∨ys.length≤i)⟩
noncomputable def QkU (b1 b2:Bool) (z TI TO i1 i2 l1 l2:Addr) (i:Nat) (h:Heap):Prop :=
 IsZip h z TI TO .none∧IsPair h TI (.ref i1) (.ref i2)∧(∃ a b,IsPair h TO a b)∧IsIt b1 h i1 l1 i∧IsIt b2 h i2 l2 i
theorem QgF {P:Program} {w:World} {K:PySem.W.Frag} {elts:List Expr} {kk:Nat} {tp:Pos} (b1 b2:Bool) (z TI TO i1 i2 l1 l2:Addr) (D:ZipApart z TI TO i1 i2 l1 l2) :
  Turn P w K (.Tuple elts kk tp) (Itz K b1 b2 l1 l2) [z,TI,TO,i1,i2] z (QkU b1 b2 z TI TO i1 i2 l1 l2) where
 mem:=by simp
 obj:=fun i h st b hb=>by
  obtain⟨hz,hTI,⟨a,c,hTO⟩,h1,h2⟩:=st
  have hb':b=z∨b=TI∨b=TO∨b=i1∨b=i2:=by simpa using hb
  rcases hb' with rfl | rfl | rfl | rfl | rfl
  ·exact⟨_,hz,fun v q=>by cases q⟩
  ·exact⟨_,hTI,fun v q=>by cases q⟩
  ·exact⟨_,hTO,fun v q=>by cases q⟩
  ·exact h1.rec
  ·exact h2.rec
 keep:=fun i h h' st k=>by
  obtain⟨hz,hTI,⟨a,c,hTO⟩,h1,h2⟩:=st
  exact⟨k z (by simp) _ hz,k TI (by simp) _ hTI,⟨a,c,k TO (by simp) _ hTO⟩,h1.at fun o e=>k i1 (by simp) o e,h2.at fun o e=>k i2 (by simp) o e⟩
 item:=by
  intro X hP hw hK hc i pins s σ H E I hf st hg
  subst hP hw hK
  obtain⟨xs,ys,x,y,q1,q2,hx,hy⟩:=hg
  obtain⟨us,r1,p1⟩:=q1.real I
  obtain⟨ts,r2,p2⟩:=q2.real I
  obtain⟨u,hu,ru⟩:=r1.get hx
  obtain⟨t,ht,rt⟩:=r2.get hy
  obtain⟨hz,hTI,⟨a,c,hTO⟩,h1,h2⟩:=st
  have fz:=hf z (by simp)
  have fTI:=hf TI (by simp)
  have fTO:=hf TO (by simp)
  have f1:=hf i1 (by simp)
  have f2:=hf i2 (by simp)
  refine Qes D hz hTI hTO h1 h2 p1 p2 (by simpa using hu) (by simpa using ht) fun h' a1 a2 a3 a4 a5 a6 hk=>?_
  have hp:H s.heap.objs.size=none:=I.hok.fresh (Nat.le_refl _)
  have inC:∀ b,b∈[z,TO,i1,i2]->FpOk X pins H b:=fun b hb=>by
   have hb':b=z∨b=TO∨b=i1∨b=i2:=by simpa using hb
   rcases hb' with rfl | rfl | rfl | rfl
   ·exact fz
   ·exact fTO
   ·exact f1
   ·exact f2
  have hk':∀ b o,b∉[z,TO,i1,i2]->s.heap.get? b=some o->h'.get? b=some o:=fun b o hb e=>hk b o (fun q=>hb (by simp [q])) (fun q=>hb (by simp [q])) (fun q=>hb (by simp [q])) (fun q=>hb (by simp [q])) e
  have nC:∀ b v,H b=some v->b∉[z,TO,i1,i2]:=fun b v e hb=>by rw [(inC b hb).1] at e; cases e
  have nP:∀ b v,H b=some v->b≠s.heap.objs.size:=fun b v e=>QI e hp
  have I1:Inv X pins σ (upd H s.heap.objs.size (.tup [x,y])) { s with heap:=h' }:=by
   refine I.step (g':=s.gens) (t':=s.toks) (d':=s.drawn) (ch:=[z,TO,i1,i2]) (fun b hb=>⟨(inC b hb).2.2.2.1,(inC b hb).2.1,(inC b hb).2.2.2.2.1,(inC b hb).2.2.2.2.2⟩) (fun b o _ _ hb e _=>hk' b o hb e) (fun b o _ _ hb e _=>⟨o.slots,hk' b o hb e⟩)
    (fun b o hb e n=>by rw [Qw (Nat.ne_of_lt (Heap.lt_size e))]; exact n) (fun b o hb e=>⟨o,hk' b o hb e⟩) (fun b v e=>by rw [Qw (nP b _ e)]; exact e) (fun b o v e=>by rw [Qw (nP b _ e)]; exact e) (fun b ps e=>⟨#[],by rw [Qw (nP b _ e),e]; simp⟩)
    (fun m hm=>?_) (fun b v e=>?_) I.bare
   ·obtain⟨o,es,ep,ho,rr⟩:=hm
    exact⟨o,es,ep,hk' _ o (fun hb=>(inC _ hb).2.1 rfl) ho,rr⟩
   ·by_cases hb:b=s.heap.objs.size
    ·subst hb
     rw [Qt] at e; cases e
     exact⟨by rw [sizeLine_eq]; show 2≤16777216; decide,[u,t],.cons ru (.cons rt .nil),⟨_,a5,rfl,_,rfl⟩⟩
    ·rw [Qw hb] at e
     refine(I.hok b v e).stay (fun c' v' hc' q=>?_) (fun c' q=>by rw [Qw (nP c' _ q)]; exact q) fun c' xs' q=>by rw [Qw (nP c' _ q)]; exact q
     rcases hc' with rfl | hc'
     ·exact hk' _ _ (nC _ _ e) q
     ·exact hk' _ _ (nC _ _ hc') q
  refine⟨_,rfl,wpAny_letOwnedTupleGo_zip a1 fun h'' hz'' hs''=>?_⟩
  have hpz:s.heap.objs.size≠z:=Nat.ne_of_gt (Heap.lt_size hz)
  have I2:Inv X pins σ (upd H s.heap.objs.size (.tup [x,y])) { s with heap:=h'' }:=Inv.turned (s:={ s with heap:=h' }) (t':=s.toks) I1 (fun b o hb e=>hs''.extBut b o hb e) (by rw [Qw (Ne.symm hpz)]; exact fz.1) fz.2.1 fz.2.2.2.1 fz.2.2.2.2.1 fz.2.2.2.2.2
  refine⟨.ref s.heap.objs.size,_,I2,rfl,⟨_,x,y,hp,rfl,rfl,fun xs' q=>by rw [q.inj I q1]; exact hx,fun ys' q=>by rw [q.inj I q2]; exact hy⟩,
   ⟨hz'',hs''.extBut _ _ D.TIz (hk _ _ D.TIz D.TITO D.TIi1 D.TIi2 hTI),⟨_,_,hs''.extBut _ _ D.TOz a2⟩,a3.at fun o e=>hs''.extBut _ o D.i1z e,a4.at fun o e=>hs''.extBut _ o D.i2z e⟩,fun b hb=>?_⟩
  have lt:b<s.heap.objs.size:=by
   have hb':b=z∨b=TI∨b=TO∨b=i1∨b=i2:=by simpa using hb
   rcases hb' with rfl | rfl | rfl | rfl | rfl
   ·exact Heap.lt_size hz
   ·exact Heap.lt_size hTI
   ·exact Heap.lt_size hTO
   ·exact h1.lt
   ·exact h2.lt
  rw [Qw (Nat.ne_of_lt lt)]
  exact(hf b hb).1
 done:=by
  intro X hP hw hK hc i pins s σ H E I hf st hg
  subst hP hw hK
  obtain⟨xs,ys,q1,q2,hl⟩:=hg
  obtain⟨us,r1,p1⟩:=q1.real I
  obtain⟨ts,r2,p2⟩:=q2.real I
  have l1:=r1.length
  have l2:=r2.length
  obtain⟨hz,hTI,⟨a,c,hTO⟩,h1,h2⟩:=st
  have inC:∀ b,b∈[z,TO,i1,i2]->FpOk X pins H b:=fun b hb=>hf b (by
   have hb':b=z∨b=TO∨b=i1∨b=i2:=by simpa using hb
   rcases hb' with rfl | rfl | rfl | rfl <;> simp)
  refine QbP (I.ok.hd hc) D hz hTI hTO h1 h2 p1 p2 (by
   rcases hl with z | z
   ·exact .inl (by simp; omega)
   ·exact .inr (by simp; omega)) fun h' hk=>⟨rfl,?_⟩
  have hk':∀ b o,b∉[z,TO,i1,i2]->s.heap.get? b=some o->h'.get? b=some o:=fun b o hb e=>hk b o (fun q=>hb (by simp [q])) (fun q=>hb (by simp [q])) (fun q=>hb (by simp [q])) (fun q=>hb (by simp [q])) e
  have nC:∀ b v,H b=some v->b∉[z,TO,i1,i2]:=fun b v e hb=>by rw [(inC b hb).1] at e; cases e
  refine I.step (g':=s.gens) (t':=s.toks) (d':=s.drawn) (ch:=[z,TO,i1,i2]) (fun b hb=>⟨(inC b hb).2.2.2.1,(inC b hb).2.1,(inC b hb).2.2.2.2.1,(inC b hb).2.2.2.2.2⟩) (fun b o _ _ hb e _=>hk' b o hb e) (fun b o _ _ hb e _=>⟨o.slots,hk' b o hb e⟩)
   (fun b o hb e n=>n) (fun b o hb e=>⟨o,hk' b o hb e⟩) (fun b v e=>e) (fun b o v e=>e) (fun b ps e=>⟨#[],by rw [e]; simp⟩) (fun m hm=>?_) (fun b v e=>?_) I.bare
  ·obtain⟨o,es,ep,ho,rr⟩:=hm
   exact⟨o,es,ep,hk' _ o (fun hb=>(inC _ hb).2.1 rfl) ho,rr⟩
  ·refine(I.hok b v e).stay (fun c' v' hc' q=>?_) (fun c' q=>q) fun c' xs' q=>q
   rcases hc' with rfl | hc'
   ·exact hk' _ _ (nC _ _ e) q
   ·exact hk' _ _ (nC _ _ hc') q
 self:=fun _ _ _ _ _ st h=>wpAny_pyIter_zip st.1 h
section
variable {X:Cx} {ca:Nat->Addr} {e1 e2:Expr} {m1 m2:ME} {p pos tp:Pos} {elts:List Expr} {kk:Nat}
theorem QjV {ta:TA} (hg:Gl X "zip") (hm:X.mg "zip" = none) (ha:PA X [e1,e2] ta) (hs:starEach [e1,e2] X.env=[(false,eval e1 X.env),(false,eval e2 X.env)]) (hs2:starEach [e2] X.env=[(false,eval e2 X.env)]) :
  PI X (.Tuple elts kk tp) (.Call (.Name "zip" p) [e1,e2] [] pos) (fun σ H R=>ta σ H fun vs H1=>∃ b1 b2 a1 a2 xs ys,vs=[.ref a1,.ref a2]∧Sq b1 X.K H1 a1 xs∧Sq b2 X.K H1 a2 ys∧R (Itz X.K b1 b2 a1 a2) H1):=by
 intro pins s σ H R I h
 refine Call_ (Qbh I hg hm boot_zip (PyProof.Rows.callWith_type1 (thn (ha pos pins s σ H _ I h) fun us s1 ⟨vs,H1,I1,r1,q1⟩=>?_) (by rw [hs,hs2]) (by rw [hs2]; rfl)))
 obtain⟨b1,b2,a1,a2,xs,ys,rfl,q1,q2,q⟩:=q1
 cases r1 with
 | cons ru rr =>
  cases rr with
  | cons rt rr =>
   cases rr
   cases ru
   cases rt
   obtain⟨its1,v1,p1⟩:=q1.real I1
   obtain⟨its2,v2,p2⟩:=q2.real I1
   refine QgE p1 p2 fun h' hz hTI hTO hi1 hi2 hsz hk=>wpAny_pyIter_zip hz ?_
   have I2:Inv X pins σ H1 { s1 with heap:=h' }:=I1.kept (t':=s1.toks) hk
   refine⟨s1.heap.objs.size+4,_,_,_,H1,rfl,I2,QgF b1 b2 _ (s1.heap.objs.size+2) (s1.heap.objs.size+3) s1.heap.objs.size (s1.heap.objs.size+1) a1 a2 (PyProof.Rows.zipApart_new p1.lt p2.lt),⟨hz,hTI,⟨_,_,hTO⟩,hi1,hi2⟩,fun b hb=>?_,q⟩
   have hb':b=s1.heap.objs.size+4∨b=s1.heap.objs.size+2∨b=s1.heap.objs.size+3∨b=s1.heap.objs.size∨b=s1.heap.objs.size+1:=by simpa using hb
   have hle:s1.heap.objs.size≤b:=by rcases hb' with h | h | h | h | h <;> rw [h] <;> first | exact Nat.le_refl _ | exact Nat.le_add_right _ _
   exact I1.fpOk hle (I1.hok.fresh hle)
theorem Yd {K:PySem.W.Frag} {μ:List Addr} {H:Hp} {g:G} {v:V} {d:D} {b:Bool} {ds:List D} (r:GRep K ca μ H g) (q:Den K μ H v d) (h:Qr g d=some (b,ds)):∃ a vs,v=.ref a∧Sq b K H a vs∧Dens K μ H vs ds:=by
 cases q with
 | @tup a vs es ht hs=>cases h; exact⟨a,vs,rfl,ht,hs⟩
 | @fl a vs es ht hs=>cases h; exact⟨a,vs,rfl,ht.sq,hs⟩
 | @ref n a hn =>
  unfold Qr at h
  dsimp only at h
  cases hg:g[n]? with
  | none=>rw [hg] at h; cases h
  | some o =>
   rw [hg] at h
   obtain⟨a',ha',ob⟩:=r.addr hg
   rw [hn] at ha'; cases ha'
   cases o with
   | lst es=>cases h; obtain⟨vs,hH,q⟩:=ob; exact⟨a,vs,rfl,SqL.of hH,q⟩
   | _=>cases h
 | _=>cases h
theorem JN {K:PySem.W.Frag} {μ:List Addr} {H:Hp} {g g':G} {μ':List Addr} {H':Hp} {d:D} {v:V} {b b':Bool} {ds ds':List D} (h:Qr g d=some (b,ds)) (h':Qr g' d=some (b',ds')):b=b':=by
 unfold Qr at h h'
 cases d with
 | tup es=>cases h; cases h'; rfl
 | fl es=>cases h; cases h'; rfl
 | ref n =>
  dsimp only at h h'
  have k1:b=true:=by
   cases hg:g[n]? with
   | none=>rw [hg] at h; cases h
   | some o=>rw [hg] at h; cases o <;> cases h <;> rfl
  have k2:b'=true:=by
   cases hg:g'[n]? with
   | none=>rw [hg] at h'; cases h'
   | some o=>rw [hg] at h'; cases o <;> cases h' <;> rfl
  rw [k1,k2]
 | _=>cases h
theorem Qil {K:PySem.W.Frag} {μ:List Addr} {H:Hp} {g:G} {v1 v2:V} {d1 d2:D} {b1 b2:Bool} {xs ys:List D} {t:Nat} (q1:Den K μ H v1 d1) (q2:Den K μ H v2 d2) (h1:Qr g d1=some (b1,xs)) (h2:Qr g d2=some (b2,ys)) {a1 a2:Addr} (e1:v1=.ref a1) (e2:v2=.ref a2) :
  Sim K ca μ H ⟨fun g i=>(match Qr g d1,Qr g d2 with
  | some (_,xs),some (_,ys)=>(match xs[i]?,ys[i]? with
   | some x,some y=>some (some (.tup [x,y]))
   | _,_=>some none)
  | _,_=>none),t⟩ (Itz K b1 b2 a1 a2):=by
 intro i H1 μ1 g1 ex r
 dsimp only
 cases k1:Qr g1 d1 with
 | none=>trivial
 | some p1 =>
  obtain⟨c1,xs1⟩:=p1
  cases k2:Qr g1 d2 with
  | none=>trivial
  | some p2 =>
   obtain⟨c2,ys1⟩:=p2
   have f1:=JN (K:=K) (μ:=μ) (H:=H) (μ':=μ) (H':=H) (v:=v1) h1 k1
   have f2:=JN (K:=K) (μ:=μ) (H:=H) (μ':=μ) (H':=H) (v:=v1) h2 k2
   subst f1 f2
   obtain⟨z1,vs,w1,s1,d1s⟩:=Yd r (q1.mono ex) k1
   obtain⟨z2,ws,w2,s2,d2s⟩:=Yd r (q2.mono ex) k2
   rw [e1] at w1; cases w1
   rw [e2] at w2; cases w2
   dsimp only
   cases hx:xs1[i]? with
   | none =>
    refine⟨vs,ws,s1,s2,.inl ?_⟩
    rw [d1s.length]; exact List.getElem?_eq_none_iff.mp hx
   | some x =>
    cases hy:ys1[i]? with
    | none =>
     refine⟨vs,ws,s1,s2,.inr ?_⟩
     rw [d2s.length]; exact List.getElem?_eq_none_iff.mp hy
    | some y =>
     obtain⟨vx,hvx,qx⟩:=d1s.get hx
     obtain⟨vy,hvy,qy⟩:=d2s.get hy
     refine⟨⟨vs,ws,vx,vy,s1,s2,hvx,hvy⟩,fun v H' yl=>?_⟩
     obtain⟨pp,x',y',hp,rfl,rfl,u1,u2⟩:=yl
     have:=u1 vs s1
     rw [hvx] at this; cases this
     have:=u2 ws s2
     rw [hvy] at this; cases this
     exact⟨QU hp,r.new hp,.tup (.of Qt) (.cons (qx.mono (QU hp)) (.cons (qy.mono (QU hp)) .nil))⟩
theorem QkV (hm:X.mg "zip" = none) (h1:PE3 ca X e1 m1) (h2:PE3 ca X e2 m2) (hg:Gl X "zip":=by rfl) (hs:starEach [e1,e2] X.env=[(false,eval e1 X.env),(false,eval e2 X.env)]:=by rfl) (hs2:starEach [e2] X.env=[(false,eval e2 X.env)]:=by rfl)
  (hs3:starEach [e1,e2] X.env=(false,eval e1 X.env)::starEach [e2] X.env:=by rfl):PI3 ca X (.Tuple elts kk tp) (.Call (.Name "zip" p) [e1,e2] [] pos) (QcA m1 m2) :=
 fun pn Φ=>QbK (QjV (X:=xat X ca pn Φ) hg hm (Jw h1 (Jw h2 Qk hs2) hs3 pn Φ) hs hs2) fun σ H R hQ=>by
  obtain⟨σ3,g,μ,Rp,q⟩:=hQ
  refine⟨σ3,g,μ,Rp,?_⟩
  unfold QcA at q
  unfold Qa mNil
  cases hm1:m1 σ3 g with
  | raise _ _=>rw [hm1] at q; exact q
  | stuck=>rw [hm1] at q; exact q.elim
  | ok d1 g1 =>
   rw [hm1,Res.bind_ok] at q
   rw [Res.bind_ok]
   cases hm2:m2 σ3 g1 with
   | raise _ _=>rw [hm2] at q; exact q
   | stuck=>rw [hm2] at q; exact q.elim
   | ok d2 g2 =>
    rw [hm2,Res.bind_ok] at q
    rw [Res.bind_ok,Res.bind_ok,Res.bind_ok]
    intro vs H1 μ1 ex r1 q1
    cases q1 with
    | @cons v1 _ _ _ n1 q1 =>
     cases q1 with
     | @cons v2 _ _ _ n2 q1 =>
      cases q1
      unfold QdD at q
      cases k1:Qr g2 d1 with
      | none=>rw [k1] at q; exact q.elim
      | some p1 =>
       obtain⟨b1,xs⟩:=p1
       cases k2:Qr g2 d2 with
       | none=>rw [k1,k2] at q; exact q.elim
       | some p2 =>
        obtain⟨b2,ys⟩:=p2
        rw [k1,k2] at q
        obtain⟨a1,us,rfl,s1,_⟩:=Yd r1 n1 k1
        obtain⟨a2,ts,rfl,s2,_⟩:=Yd r1 n2 k2
        exact⟨b1,b2,a1,a2,us,ts,rfl,s1,s2,q _ H1 μ1 ex r1 (Qil n1 n2 k1 k2 rfl rfl)⟩
end
end L3
end
section
namespace L3
open PySem PySem.Spec PyProof.Rows L2
theorem Ym (K:PySem.W.Frag) (t c:Ty):PySem.W.kitOne K (.type t.name) (.type c.name)=some (tyLe t c):=by
 cases t <;> cases c <;> kernel_rfl
section
variable {X:Cx} {ca:Nat->Addr} {a b c e:Expr} {ma mb mc me:ME} {pos p p2:Pos} {k:Nat}
theorem Qft (c:Ty):CallR X (.builtin "isinstance") (fun xs H Q=>∃ x g μ d t,xs=[x,.ty c.name]∧GRep X.K ca μ H g∧Den X.K μ H x d∧tyOf g d=some t∧Q (.bl (tyLe t c)) H):=by
 intro pins s σ H xs us Q I rv h
 obtain⟨x,g,μ,d,t,rfl,r,q,ht,qq⟩:=h
 obtain⟨u,u2,rfl,ru,ru2⟩:=rv.two
 cases ru2
 have fin:∀ tk,EP X pins σ Q (.bool (tyLe t c)) { s with toks:=tk }:=fun tk=>⟨.bl _,H,I.tok tk,rfl,qq⟩
 cases q with
 | non=>cases ht; exact Z2 I ru .non (Ym X.K .non c) fin
 | bl y=>cases ht; exact Z2 I ru (.bl y) (Ym X.K .bool c) fin
 | int y=>cases ht; exact Z2 I ru (.int y) (Ym X.K .int c) fin
 | str y=>cases ht; exact Z2 I ru (.str y) (Ym X.K .str c) fin
 | @tup a vs ds hq hs =>
  cases ht
  cases ru
  obtain⟨its,_,⟨o,h1,h2,_⟩,_⟩:=I.tuple hq
  exact PySem.W.kia_one PySem.W.kitx_tuple I.kIn ⟨o,h1,h2⟩ (Ym X.K .tuple c) (fun z=>nomatch z) fin
 | @fl a vs ds hq hs =>
  cases ht
  cases ru
  obtain⟨its,_,p,_⟩:=I.list hq.sq
  obtain⟨o,h1,h2,_⟩:=p.isList
  exact PySem.W.kia_one PySem.W.kitx_list I.kIn ⟨o,h1,h2⟩ (Ym X.K .list c) (fun z=>nomatch z) fin
 | @ref n a hn =>
  unfold tyOf at ht
  dsimp only at ht
  cases hg:g[n]? with
  | none=>rw [hg] at ht; cases ht
  | some o =>
   rw [hg] at ht
   obtain⟨a',ha',ob⟩:=r.addr hg
   rw [hn] at ha'; cases ha'
   cases o with
   | lst ds=>cases ht; obtain⟨vs,hH,_⟩:=ob; exact Z2 I ru (.lst hH) (Ym X.K .list c) fin
   | dct ks=>cases ht; obtain⟨kv,hH,_⟩:=ob; exact Z2 I ru (.dK hH) (Ym X.K .dict c) fin
   | ins _ _=>cases ht
   | exc _=>cases ht
theorem ZO {x:Str} (c:Ty) (hi:X.mg "isinstance" = none) (hm:X.mg x=none) (hv:bootBuiltins x=some (.type c.name)) (he:PE3 ca X e me) (hgi:Gl X "isinstance":=by rfl) (hg:Gl X x:=by rfl) (hnm:x ≠ "__name__":=by decide) (hdb:(x == ("__debug__" : Str))=false:=by decide)
  (hs:starEach [e,.Name x p2] X.env=(false,eval e X.env)::starEach [.Name x p2] X.env:=by rfl) (hs2:starEach [.Name x p2] X.env=(false,eval (.Name x p2) X.env)::starEach [] X.env:=by rfl) (hpl:(backTo pos (starEach [.Name x p2] X.env)).any (·.1)=false:=by rfl) :
  PE3 ca X (.Call (.Name "isinstance" p) [e,.Name x p2] [] pos) (mOp1 (Zx c) me) :=
 fun pn Φ=>Zn (Ju (X:=xat X ca pn Φ) (Qft (ca:=ca) c) hgi hi boot_isinstance (Z3 (X:=xat X ca pn Φ) (he pn Φ) (Z3 (X:=xat X ca pn Φ) (QbF (X:=xat X ca pn Φ) (v:=.ty c.name) hg hm hv rfl hnm hdb) Qbi hs2) hs) (by decide) (by decide) hs hpl) fun σ H Q ⟨σ3,g,μ,R,q⟩ =>
  Zr (Qab R q) fun y H1 hQ=>by
   obtain⟨d,g1,μ1,e1,R1,q1,p1⟩:=hQ
   unfold Zx at p1
   cases ht:tyOf g1 d with
   | none=>rw [ht] at p1; exact p1.elim
   | some t=>rw [ht] at p1; exact⟨y,g1,μ1,d,t,rfl,R1.g,q1,ht,p1 _ H1 μ1 .refl R1.g (.bl _)⟩
theorem QdO {K:PySem.W.Frag} {μ:List Addr} {H:Hp}:∀ {vs:List V} {ds:List D} {us:List Value} {b:Bool},Dens K μ H vs ds->Vals vs us->allB ds=some b->∃ bs:List Bool,us=bs.map Value.bool∧bs.all id=b
 | _,_,_,b,.nil,.nil,h=>by cases h; exact⟨[],rfl,rfl⟩
 | _,_,_,b,@Dens.cons _ _ _ _ _ _ ds q qs,.cons r rs,h=>by
  cases q with
  | bl c =>
   unfold allB at h
   cases hd:allB ds with
   | none=>rw [hd] at h; cases h
   | some d =>
    rw [hd] at h
    cases h
    obtain⟨bs,h1,h2⟩:=QdO qs rs hd
    cases r
    exact⟨c::bs,by rw [h1]; rfl,by simp [h2]⟩
  | _=>cases h
theorem Qfu (bs:List Bool):((List.range bs.length).all fun i=>(bs[i]?).getD true)=bs.all id:=by
 rw [Bool.eq_iff_iff,List.all_eq_true,List.all_eq_true]
 constructor
 ·intro h b hb
  obtain⟨i,hi,rfl⟩:=List.getElem_of_mem hb
  have:=h i (List.mem_range.mpr hi)
  simpa [hi] using this
 ·intro h i hi
  have hi':=List.mem_range.mp hi
  have:=h bs[i] (List.getElem_mem hi')
  simpa [hi'] using this
theorem Qfv (hc:X.calm=true):CallR X (.builtin "all") (fun xs H Q=>∃ p vs ds μ b,xs=[.ref p]∧SqL X.K H p vs∧Dens X.K μ H vs ds∧allB ds=some b∧Q (.bl b) H):=by
 intro pins s σ H xs us Q I rv h
 obtain⟨l,vs,ds,μ,b,rfl,hq,q,hb,qq⟩:=h
 obtain⟨u,rfl,ru⟩:=rv.one
 cases ru
 obtain⟨its,rs,pl,_⟩:=I.list hq
 obtain⟨bs,rfl,e2⟩:=QdO q rs hb
 have hl:=pl.isList
 have hlt:l<s.heap.objs.size:=by obtain⟨_,e,_⟩:=hl; exact Heap.lt_size e
 refine call_all_walk (wpAny_pyIter_list hl ⟨s.heap.objs.size,[s.heap.objs.size,l],[s.heap.objs.size],_,_,_,fun i=>(bs[i]?).getD true,rfl,Walks.list (A:=X.A.in1) (show X.A.in1.handled=none from I.ok.hd hc) _ l (Nat.ne_of_lt hlt) _,⟨⟨_,Heap.get?_push_size _ rfl,rfl,rfl⟩,hl.push _⟩,fun i v s' Q' E' hP hQ=>?_,fun h' tk hk=>?_⟩)
 ·have hP:(bs.map Value.bool).toArray[i]?=some v:=hP
  rw [List.getElem?_toArray,List.getElem?_map] at hP
  cases hi:bs[i]? with
  | none=>rw [hi] at hP; cases hP
  | some c =>
   rw [hi] at hP
   cases hP
   simp only [hi,Option.getD_some] at hQ
   exact wpAny_truthy_bool hQ
 ·have kept:∀ c o,s.heap.get? c=some o->h'.get? c=some o:=fun c o e=>hk c o (fun hm=>by rw [List.mem_singleton.mp hm] at e; exact Nat.lt_irrefl _ (Heap.lt_size e)) (Heap.get?_push_of_some _ e)
  have ea:((List.range (bs.map Value.bool).toArray.size).all fun i=>(bs[i]?).getD true)=b:=by
   rw [List.size_toArray,List.length_map,Qfu,e2]
  rw [ea]
  exact⟨.bl b,H,I.kept kept,rfl,qq⟩
theorem QgG (hc:X.calm=true) (hm:X.mg "all" = none) (he:PE3 ca X e me) (hg:Gl X "all":=by rfl) (hs:starEach [e] X.env=[(false,eval e X.env)]:=by rfl) (hpl:(backTo pos (starEach [] X.env)).any (·.1)=false:=by rfl) :
  PE3 ca X (.Call (.Name "all" p) [e] [] pos) (mOp1 pAll me) :=
 Qih (r:=fun xs H Q=>∃ p vs ds μ b,xs=[V.ref p]∧SqL X.K H p vs∧Dens X.K μ H vs ds∧allB ds=some b∧Q (.bl b) H) (fun pn Φ=>Qfv (X:=xat X ca pn Φ) hc) hm boot_all (fun Φ σ H μ g y d Q r q pp=>by
  unfold pAll at pp
  cases q with
  | @ref n t hn =>
   dsimp only at pp
   cases hgn:g[n]? with
   | none=>rw [hgn] at pp; exact pp.elim
   | some ob =>
    rw [hgn] at pp
    obtain⟨t',ht',orp⟩:=r.addr hgn
    rw [hn] at ht'; cases ht'
    cases ob with
    | lst ds =>
     obtain⟨vs,hH,q⟩:=orp
     dsimp only at pp
     cases hb:allB ds with
     | none=>rw [hb] at pp; exact pp.elim
     | some b=>rw [hb] at pp; exact⟨t,vs,ds,μ,b,rfl,.of hH,q,hb,pp _ H μ .refl r (.bl _)⟩
    | _=>exact pp.elim
  | _=>exact pp.elim) he hg (by decide) (by decide) hs hpl
theorem Qhs {K:PySem.W.Frag} {μ:List Addr} {H:Hp} {v:V} {d:D} (q:Den K μ H v d) (h:JK d=true):Qba v=true:=by cases q <;> first | rfl | cases h
theorem Qfw {K:PySem.W.Frag} {μ:List Addr} {H:Hp}:∀ {vs:List V} {ds:List D},Dens K μ H vs ds->ds.all JK=true->vs.all Qba=true
 | _,_,.nil,_=>rfl
 | _,_,.cons q qs,h=>by
  rw [List.all_cons,Bool.and_eq_true] at h ⊢
  exact⟨Qhs q h.1,Qfw qs h.2⟩
theorem QkW {K:PySem.W.Frag} {μ:List Addr} {H:Hp} {v w:V} {d e:D} (q:Den K μ H v d) (q':Den K μ H w e) (h:JK d=true) (h':JK e=true):eqV v w=eqF d e:=by
 cases q <;> cases q' <;> first | rfl | cases h | cases h'
theorem QjW {K:PySem.W.Frag} {μ:List Addr} {H:Hp} {w:V} {e:D} (q':Den K μ H w e) (h':JK e=true):∀ {vs:List V} {ds:List D},Dens K μ H vs ds->ds.all JK=true->(vs.any fun y=>eqV y w)=ds.any fun d=>eqF d e
 | _,_,.nil,_=>rfl
 | _,_,.cons q qs,h=>by
  rw [List.all_cons,Bool.and_eq_true] at h
  rw [List.any_cons,List.any_cons,QkW q q' h.1 h',QjW q' h' qs h.2]
theorem Qdc {K:PySem.W.Frag} (neg:Bool):Je K ca (rIn K neg) (pIn neg):=by
 intro Φ σ H μ g x y dx dy Q r qx qy p
 unfold pIn at p
 cases hs:Qr g dy with
 | none=>rw [hs] at p; exact p.elim
 | some pr =>
  obtain⟨bb,ds⟩:=pr
  rw [hs] at p
  dsimp only at p
  by_cases z:JK dx=true∧ds.all JK=true
  ·rw [if_pos z] at p
   obtain⟨a,vs,rfl,sq,qs⟩:=Yd r qy hs
   refine⟨a,vs,rfl,?_,Qhs qx z.1,Qfw qs z.2,p _ H μ .refl r ?_⟩
   ·cases bb
    ·exact .inr sq
    ·exact .inl sq
   ·unfold inV
    rw [QjW qx z.1 qs z.2]
    cases neg <;> exact .bl _
  ·rw [if_neg z] at p; exact p.elim
theorem r_in (ha:PE3 ca X a ma) (hb:PE3 ca X b mb) (hm:behindInMarks .In b=false:=by rfl):PE3 ca X (.Compare a [.In] [b] pos) (mOp2 (pIn false) ma mb):=Qgw (fun _ _=>Qcr) (Qdc false) ha hb hm
theorem QkX (ha:PE3 ca X a ma) (hb:PE3 ca X b mb) (hm:behindInMarks .In b=false:=by rfl):PT3 ca X (.Compare a [.In] [b] pos) (Qp (mOp2 (pIn false) ma mb)):=Jk (fun _ _=>Qcr) (Qdc false) ha hb hm
theorem QgH (ha:PE3 ca X a ma) (hb:PE3 ca X b mb) (hm:behindInMarks .NotIn b=false:=by rfl):PT3 ca X (.Compare a [.NotIn] [b] pos) (Qp (mOp2 (pIn true) ma mb)):=Jk (fun _ _=>Qcs) (Qdc true) ha hb hm
end
end L3
end
section
namespace L3
open PySem PySem.Spec PyProof.Rows L2
section
variable {prog:Program} {w:World} {A:Around} {E:Value->Shared->Prop} {s:Shared}
theorem JO {t sl:Addr} {items:Array Value} {vl vu:Value} {lo hi:Option Int} {Q:Value->Shared->Prop} (ht:IsTup s.heap t items) (hs:s.heap.IsSliceOf sl vl vu .none) (pl:IsPart vl lo) (pu:IsPart vu hi)
  (h1:HT.sIx items.size 0 lo=0) (h2:HT.sIx items.size items.size hi=items.size) (h:Q (.ref t) s):wpAny (model prog w) A (getItem (.ref t) (.ref sl)) Q E s:=by
 obtain⟨os,hos,hcs,hds⟩:=id hs
 have hTs:s.TypeIs (.ref sl) "slice":=⟨os,hos,hcs⟩
 unfold getItem
 try with_reducible refine wpAny_holding ?_
 first | refine wpAny_bind (wpAny_pure ?_) | skip
 refine wpAny_bind (wpAny_sequenceKey ht.typeIs (by decide) ?_)
 refine wpAny_bind (wpAny_callSpecial?_slot (name:=Str.ofString "__getitem__") ht.typeIs PyProof.Rows.slot_tuple_getitem (wpAny_call_entry PyProof.Rows.slot_tuple_getitem ht.typeIs entry_tuple_getitem ?_ (args_tuple_getitem _ _)))
 show wpAny _ _ (Builtin.Tuple.tupleItemsOf (.ref t) >>= _) _ _ s
 refine wpAny_bind (tupleItemsOf_ ht (wpAny_bind (wpAny_typeOf hTs ?_)))
 rw [if_pos (by decide)]
 refine wpAny_bind (HT.sliceApplied_gen hs pl pu ?_)
 rw [h1,h2]
 show wpAny _ _ (if (((0:Nat):Int) == 0 && (1:Int) == 1 && (items.size - 0) == items.size)=true then _ else _) _ _ s
 rw [if_pos (by simp)]
 unfold Builtin.Tuple.tupleIsExact
 refine wpAny_bind (wpAny_bind (wpAny_typeOf ht.typeIs (wpAny_pure ?_)))
 rw [if_pos (by decide)]
 exact wpAny_bind (wpAny_rule (wpAny_pure ⟨_,rfl,wpAny_pure h⟩))
end
theorem QgI (n d:Nat) (o:Option Int):HT.sIx n d o=sIxD n d o:=by cases o <;> rfl
theorem Dens.cut {K:PySem.W.Frag} {μ:List Addr} {H:Hp} {vs:List V} {ds:List D} (lo hi:Option Int) (h:Dens K μ H vs ds):Dens K μ H (cutV vs lo hi) (cutD ds lo hi):=by
 unfold cutV cutD
 rw [QgI,QgI,h.length]
 exact(h.drop _).take _
section
variable {X:Cx} {ca:Nat->Addr} {e:Expr} {me:ME} {lo hi:Option Expr} {ml mh:MO} {pos p2:Pos}
theorem Qfx:SlR X (fun x lo hi H Q=>∃ a xs,x=.ref a∧SqT X.K H a xs∧(HT.sIx xs.length 0 lo=0∧HT.sIx xs.length xs.length hi=xs.length)∧Q (.ref a) H):=by
 intro pins s σ H x v vl vu lo hi sl Q I rx hs pl pu h
 obtain⟨a,xs,rfl,hx,hw,q⟩:=h
 cases rx
 obtain⟨its,r,ht,hz⟩:=I.tuple hx
 have hlen:its.toArray.size=xs.length:=by rw [List.size_toArray]; exact r.length.symm
 refine⟨"tuple",_,PyProof.Rows.slot_tuple_getitem.lookup,ht.typeIs,?_⟩
 exact JO ht hs pl pu (by rw [hlen]; exact hw.1) (by rw [hlen]; exact hw.2) ⟨.ref a,H,I,rfl,q⟩
noncomputable def upO (K:PySem.W.Frag) (ca:Nat->Addr) (Φ:XS) (m:MO):TO:=fun σ H Q=>∃ σ3 g μ,Rep K ca μ σ3 g σ H∧match m σ3 g with
 | .ok o g'=>∀ H' μ',Ext K μ H μ' H'->GRep K ca μ' H' g'->Q o H'
 | .raise x g'=>RaP K ca Φ σ H μ x g'
 | .stuck=>False
noncomputable def PO3 (ca:Nat->Addr) (X:Cx) (e:Option Expr) (m:MO):Prop:=∀ pn Φ,PO (xat X ca pn Φ) e (upO X.K ca Φ m)
theorem Ye:PO3 ca X none Zb:=fun pn Φ pins s σ H Q I ⟨_,_,μ,R,p⟩=>QhX (X:=xat X ca pn Φ) pins s σ H Q I (p H μ .refl R.g)
theorem J5 (he:PE3 ca X e me):PO3 ca X (some e) (YJ me):=fun pn Φ pins s σ H Q I hQ=>by
 obtain⟨σ3,g,μ,R,p⟩:=hQ
 refine QhY (X:=xat X ca pn Φ) (he pn Φ) pins s σ H Q I ⟨σ3,g,μ,R,?_⟩
 unfold YJ at p
 cases hm:me σ3 g with
 | raise _ _=>rw [hm] at p; exact p
 | stuck=>rw [hm] at p; exact p
 | ok d g1 =>
  rw [hm,Res.bind_ok] at p
  intro v H1 μ1 e1 r1 q1
  cases q1 with
  | int i=>exact⟨i,rfl,p H1 μ1 e1 r1⟩
  | _=>exact p.elim
theorem Qim {α:Type} (xs:List α) (lo hi:Option Int) (h1:sIxD xs.length 0 lo=0) (h2:sIxD xs.length xs.length hi=xs.length):cutD xs lo hi=xs:=by
 unfold cutD
 rw [h1,h2]; simp
theorem YO (he:PE3 ca X e me) (hl:PO3 ca X lo ml) (hh:PO3 ca X hi mh):PE3 ca X (.Subscript e (.Slice lo hi none p2) pos) (ZA me ml mh):=fun pn Φ =>
 Zn (Qgt (X:=xat X ca pn Φ) ((sl_tup.or Qfx).or Qh0) (he pn Φ) (hl pn Φ) (hh pn Φ)) fun σ H Q ⟨σ3,g,μ,R,p⟩=>Zr (Qab R p) fun x H1 hQ=>by
  obtain⟨d,g1,μ1,e1,R1,q1,p1⟩:=hQ
  refine⟨σ3,g1,μ1,R1,?_⟩
  cases hm:ml σ3 g1 with
  | raise _ _=>rw [hm] at p1; exact p1
  | stuck=>rw [hm] at p1; exact p1
  | ok l g2 =>
   rw [hm,Res.bind_ok] at p1
   intro H2 μ2 e2 r2
   refine⟨σ3,g2,μ2,R1.go e2 r2,?_⟩
   cases hm2:mh σ3 g2 with
   | raise _ _=>rw [hm2] at p1; exact RaP.go e2 p1
   | stuck=>rw [hm2] at p1; exact p1
   | ok u g3 =>
    rw [hm2,Res.bind_ok] at p1
    intro H3 μ3 e3 r3
    have p3:=Post.go (e2.trans e3) p1
    have q3:=(q1.mono e2).mono e3
    unfold QcC at p3
    cases q3 with
    | @tup a vs ds ht hs =>
     by_cases hw:HT.sIx vs.length 0 l=0∧HT.sIx vs.length vs.length u=vs.length
     ·refine .inl (.inr ⟨a,vs,rfl,ht,hw,p3 _ H3 μ3 .refl r3 ?_⟩)
      rw [Qim ds l u (by rw [← QgI,← hs.length]; exact hw.1) (by rw [← QgI,← hs.length]; exact hw.2)]
      exact .tup ht hs
     ·exact .inl (.inl ⟨a,vs,rfl,ht,hw,fun t ht'=>p3 _ _ μ3 (QU ht') (r3.new ht') (.tup (.of Qt) ((hs.cut l u).mono (QU ht')))⟩)
    | @fl a vs ds ht hs =>
     refine .inr ⟨a,vs,rfl,ht.sq,fun t ht'=>p3 _ _ (μ3++[t]) (QD ht') (r3.push ht' ⟨_,Qt,(hs.cut l u).mono (QD ht')⟩) (.ref ?_)⟩
     rw [← r3.len]; simp
    | @ref n a hn =>
     dsimp only at p3
     cases hg:g3[n]? with
     | none=>rw [hg] at p3; exact p3.elim
     | some o =>
      rw [hg] at p3
      obtain⟨a',ha',ob⟩:=r3.addr hg
      rw [hn] at ha'; cases ha'
      cases o with
      | lst ds =>
       obtain⟨vs,hH,hs⟩:=ob
       refine .inr ⟨a,vs,rfl,.of hH,fun t ht'=>p3 _ _ (μ3++[t]) (QD ht') (r3.push ht' ⟨_,Qt,(hs.cut l u).mono (QD ht')⟩) (.ref ?_)⟩
       rw [← r3.len]; simp
      | _=>exact p3.elim
    | _=>exact p3.elim
end
end L3
end
section
namespace L3
open PySem PySem.Spec PyProof.Rows L2
abbrev bmV:List Value:=[.type "ValueError",.type "Exception",.type "BaseException",.type "object"]
structure ExK (K:PySem.W.Frag) (C:Addr):Prop where
 ga:PySem.W.findIn K (.ref C) "__getattribute__" = some (some (.builtin "BaseException.__getattribute__"))
 gx:PySem.W.findIn K (.ref C) "__getattr__" = some none
 cl:PySem.W.findIn K (.ref C) "__class__" = some (some (.builtin "object.__class__"))
 gt:PySem.W.specialIn K (.builtin "object.__class__") "__get__" = some (some (.builtin "getset_descriptor.__get__"))
 tk:PySem.W.takesIn K (.builtin "object.__class__")=some true
 mr:PySem.W.mroIn K C (.type "object")=some true
 sb:PySem.W.subIn K (.ref C) (.type "BaseException")=some true
 ci:(PySem.W.clsIn K C).isSome=true
section
variable {prog:Program} {w:World} {A:Around} {E:Value->Shared->Prop} {s:Shared} {K:PySem.W.Frag} {C e:Addr} {oe:Obj} {vs:Array Value}
theorem QdP {h:Heap} (hx:h.get? e=some oe) (hc:oe.cls=.ref C) (hd:oe.data=.fields vs) (hn:oe.dict=none):PySem.W.InstAt h e oe C none :=
 ⟨hx,hc,by obtain⟨c,d,dt,sl⟩:=oe; obtain rfl:dt=_:=hd; rfl,by rw [hn]; trivial⟩
theorem Qin (F:ExK K C):PySem.W.findObj K C none "__class__" = some (.bind (.builtin "getset_descriptor.__get__") (.builtin "object.__class__")):=by
 obtain⟨cd,hc⟩:=Option.isSome_iff_exists.mp F.ci
 unfold PySem.W.findObj
 rw [hc,Option.bind_some,F.cl,Option.bind_some]
 simp [F.gt,F.tk]
theorem QgJ {nm:Value} {Q:Unit->Shared->Prop} (X:K.In s.heap) (F:ExK K C) (I:PySem.W.InstAt s.heap e oe C none) (hq:Q () s):wpAny (model prog w) A (checkBuiltinCall "BaseException.__getattribute__" ⟨[.ref e,nm],[]⟩) Q E s:=by
 obtain⟨h,g,d,t,os⟩:=s
 have hk:builtinKind "BaseException.__getattribute__" = some .slot:=by decide +kernel
 have hsplit:splitId "BaseException.__getattribute__" = some ("BaseException", "__getattribute__"):=by decide +kernel
 have L0:=I.type (M:=model prog w)
 have L1:=PySem.W.looks_subIn (M:=model prog w) X F.sb
 have ha:=PySem.F.args_bexc_ga (.ref e) nm
 simp only [checkBuiltinCall,hk,hsplit]
 unfold isInstance
 refine wpAny_bind (wpAny_bind (L0.at (L1.at ?_)))
 repeat (first | exact hq | wp_step)
theorem Qfy {Q:Option Value->Shared->Prop} (X:K.In s.heap) (F:ExK K C) (I:PySem.W.InstAt s.heap e oe C none) (h:Q (some (.ref C)) { s with toks:=s.toks+1 }):wpAny (model prog w) A (getAttr? (.ref e) "__class__") Q E s:=by
 obtain⟨hh,g,d,t,os⟩:=s
 have L0:=I.type (M:=model prog w)
 have L1:=PySem.W.looks_findIn (M:=model prog w) X F.ga
 have L2:=PySem.W.looks_findIn (M:=model prog w) X F.gx
 have L3:=PySem.W.looks_find (M:=model prog w) X I (Qin F)
 have hb:=PySem.F.attr_ValueError.ga.bind (.ref e)
 unfold getAttr? getAttrBy? getAttrBy
 refine wpAny_bind (wpAny_mkText (wpAny_bind (wpAny_attempt (wpAny_holding (wpAny_bind (L0.at (wpAny_bind (L1.at ?_))))))))
 show wpAny _ _ (getAttrByItsOwn _ _ _ _ _ _) _ _ _
 unfold getAttrByItsOwn hookBefore callGetattribute boundAndCalled
 refine wpAny_bind (L2.at ?_)
 refine wpAny_bind (wpAny_attempt (wpAny_holding ?_))
 show wpAny _ _ (bindSpecial (.builtin "BaseException.__getattribute__") (.ref e) >>= _) _ _ _
 rw [hb]
 refine wpAny_bind (wpAny_pure ?_)
 refine wpAny_call (codeAny_call_builtin PySem.F.attr_ValueError.ga.plain PySem.F.entry_bexc_ga (QgJ (s:=⟨hh,g,d,t+1,os⟩) X F I ?_))
 unfold Builtin.«object.__getattribute__»
 refine wpAny_bind (wpAny_of_eq (a:=(Value.ref e,[Value.str (Str.ofString "__class__") t])) rfl ?_)
 refine wpAny_bind (wpAny_of_eq (a:=Str.ofString "__class__") rfl ?_)
 refine wpAny_bind (L0.at (wpAny_bind (L3.at ?_)))
 show wpAny _ _ (Builtin.ObjectAttr.bindTo (.builtin "getset_descriptor.__get__") (.builtin "object.__class__") (.ref e) (.ref C)) _ _ _
 refine wpAny_bind (wpAny_holding (wpAny_call (PySem.W.class_get (s:=⟨hh,g,d,t+1,os⟩) (od:=none) X I F.mr ?_)))
 refine wpAny_pure ?_
 show wpAny (model prog w) A (handedOut (Value.ref C)) _ _ _
 exact wpAny_pure (wpAny_pure h)
theorem QgK (F:ExK K C):PySem.W.KitX K (.ref e) (.ref C) (fun h=>∃ o vs,h.get? e=some o∧(o.cls=.ref C∧o.dict=none)∧o.data=.fields vs) where
 ty:=fun M h _ ⟨o,vs,h1,h2,h3⟩=>(QdP h1 h2.1 h3 h2.2).type
 it:=fun _ _ X _=>by
  obtain⟨cd,hc⟩:=Option.isSome_iff_exists.mp F.ci
  unfold PySem.W.clsIn at hc
  split at hc
  ·rename_i c' d' cd' sl' ho
   intro A' Q' E' s' k q
   unfold isType loadHead
   exact wpAny_bind (wpAny_loadPart (k _ _ (X _ _ ho)) (wpAny_pure q))
  ·cases hc
 ne:=fun h tp dd its n sl X htp=>by
  obtain⟨cd,hc⟩:=Option.isSome_iff_exists.mp F.ci
  refine Bool.eq_false_iff.mpr fun q=>?_
  have z:C=tp:=Value.ref.inj (beq_iff_eq.mp q)
  subst z
  unfold PySem.W.clsIn at hc
  split at hc
  ·rename_i c' d' cd' sl' ho
   cases (X _ _ ho).symm.trans htp
  ·cases hc
 ca:=fun X ⟨o,vs,h1,h2,h3⟩ k=>Qfy X F (QdP h1 h2.1 h3 h2.2) k
end
structure IsX (K:PySem.W.Frag) (ca:Nat->Addr) (T:Value) (all cs:List Nat):Prop where
 ex:∀ c∈all,ExK K (ca c)
 an:∀ c∈all,PySem.W.kitOne K (.ref (ca c)) T=some (decide (c∈cs))
 no:PySem.W.kitOne K (.type "NoneType") T=some false
section
variable {X:Cx} {ca:Nat->Addr} {e:Expr} {me:ME} {pos p p2:Pos} {all cs:List Nat}
theorem Qbm {u:V} {T:Value} (hu:∀ v,L2.RelV u v->v=T) (h:IsX X.K ca T all cs):CallR X (.builtin "isinstance") (fun xs H Q=>∃ x g μ d b,xs=[x,u]∧GRep X.K ca μ H g∧Den X.K μ H x d∧QO all cs d g=.ok (.bl b) g∧Q (.bl b) H):=by
 intro pins s σ H xs us Q I rv z
 obtain⟨x,g,μ,d,b,rfl,r,q,ht,qq⟩:=z
 obtain⟨v,v2,rfl,rx,r2⟩:=rv.two
 have e2:v2=T:=hu v2 r2
 subst e2
 have fin:∀ tk,EP X pins σ Q (.bool b) { s with toks:=tk }:=fun tk=>⟨.bl _,H,I.tok tk,rfl,qq⟩
 cases q with
 | non=>cases ht; exact Z2 I rx .non h.no fin
 | @ref n a hn =>
  unfold QO at ht
  dsimp only at ht
  cases hg:g[n]? with
  | none=>rw [hg] at ht; cases ht
  | some o =>
   rw [hg] at ht
   obtain⟨a',ha',ob⟩:=r.addr hg
   rw [hn] at ha'; cases ha'
   cases o with
   | exc ex =>
    dsimp only at ht
    by_cases hm:ex.1∈all
    ·rw [if_pos hm] at ht
     cases ht
     cases rx
     obtain⟨⟨o,vs,h1,h2,h3⟩,_⟩:=I.hok a _ ob
     exact PySem.W.kia_one (QgK (h.ex _ hm)) I.kIn ⟨o,vs,h1,h2,h3⟩ (h.an _ hm) (fun z=>nomatch z) fin
    ·rw [if_neg hm] at ht; cases ht
   | _=>cases ht
 | _=>cases ht
theorem QdQ {K:PySem.W.Frag} {Φ:XS} {u:V} (σ:L2.St) (H:Hp) (Q:VK) (h:up K ca Φ (mOp1 (QO all cs) me) σ H Q):up K ca Φ me σ H fun y H1=>∃ x g μ d b,[y,u]=[x,u]∧GRep K ca μ H1 g∧Den K μ H1 x d∧QO all cs d g=.ok (.bl b) g∧Q (.bl b) H1:=by
 obtain⟨σ3,g,μ,R,q⟩:=h
 refine Zr (Qab R q) fun y H1 ⟨d,g1,μ1,e1,R1,q1,p1⟩=>?_
 have:∃ b,QO all cs d g1=.ok (.bl b) g1:=by
  unfold QO at p1 ⊢
  cases d with
  | non=>exact⟨false,rfl⟩
  | ref n =>
   dsimp only at p1 ⊢
   cases hg:g1[n]? with
   | none=>rw [hg] at p1; exact p1.elim
   | some o =>
    rw [hg] at p1
    cases o with
    | exc ex =>
     dsimp only at p1 ⊢
     by_cases hm:ex.1∈all
     ·rw [if_pos hm]; exact⟨_,rfl⟩
     ·rw [if_neg hm] at p1; exact p1.elim
    | _=>exact p1.elim
  | _=>exact p1.elim
 obtain⟨b,hb⟩:=this
 rw [hb] at p1
 exact⟨y,g1,μ1,d,b,rfl,R1.g,q1,hb,p1 _ H1 μ1 .refl R1.g (.bl _)⟩
theorem Yn {x:Str} {C:Addr} (hi:X.mg "isinstance" = none) (hC:X.mg x=some (.ref C)∧IsX X.K ca (.ref C) all cs) (he:PE3 ca X e me) (hgi:Gl X "isinstance":=by rfl) (hg:Gl X x:=by rfl) (hdb:(x == ("__debug__" : Str))=false:=by decide)
  (hs:starEach [e,.Name x p2] X.env=(false,eval e X.env)::starEach [.Name x p2] X.env:=by rfl) (hs2:starEach [.Name x p2] X.env=(false,eval (.Name x p2) X.env)::starEach [] X.env:=by rfl) (hpl:(backTo pos (starEach [.Name x p2] X.env)).any (·.1)=false:=by rfl) :
  PE3 ca X (.Call (.Name "isinstance" p) [e,.Name x p2] [] pos) (mOp1 (QO all cs) me):=fun pn Φ =>
 Zn (Ju (X:=xat X ca pn Φ) (Qbm (ca:=ca) (u:=.ref C) (fun _ h=>h) hC.2) hgi hi boot_isinstance (Z3 (X:=xat X ca pn Φ) (he pn Φ) (Z3 (X:=xat X ca pn Φ) (QeS (X:=xat X ca pn Φ) (v:=.ref C) hg hC.1 rfl hdb) Qbi hs2) hs) (by decide) (by decide) hs hpl) fun σ H Q h=>QdQ σ H Q h
theorem Qio {x:Str} {T:String} (hi:X.mg "isinstance" = none) (hm:X.mg x=none) (hC:bootBuiltins x=some (.type T)∧IsX X.K ca (.type T) all cs) (he:PE3 ca X e me) (hgi:Gl X "isinstance":=by rfl) (hg:Gl X x:=by rfl) (hnm:x ≠ "__name__":=by decide) (hdb:(x == ("__debug__" : Str))=false:=by decide)
  (hs:starEach [e,.Name x p2] X.env=(false,eval e X.env)::starEach [.Name x p2] X.env:=by rfl) (hs2:starEach [.Name x p2] X.env=(false,eval (.Name x p2) X.env)::starEach [] X.env:=by rfl) (hpl:(backTo pos (starEach [.Name x p2] X.env)).any (·.1)=false:=by rfl) :
  PE3 ca X (.Call (.Name "isinstance" p) [e,.Name x p2] [] pos) (mOp1 (QO all cs) me):=fun pn Φ =>
 Zn (Ju (X:=xat X ca pn Φ) (Qbm (ca:=ca) (u:=.ty T) (fun _ h=>h) hC.2) hgi hi boot_isinstance (Z3 (X:=xat X ca pn Φ) (he pn Φ) (Z3 (X:=xat X ca pn Φ) (QbF (X:=xat X ca pn Φ) (v:=.ty T) hg hm hC.1 rfl hnm hdb) Qbi hs2) hs) (by decide) (by decide) hs hpl) fun σ H Q h=>QdQ σ H Q h
end
section
variable {K:PySem.W.Frag} {C:Addr} {x:Str} {mg:Str->Option Value} {h:Heap}
theorem Qip (X:K.In h) (e:mg x=some (.ref C)) (q:PySem.W.excIn K C bmV "ValueError.__new__" = true):OwnCls x C bmV "ValueError.__new__" mg h:=by
 refine⟨e,?_⟩
 unfold PySem.W.excIn at q
 split at q
 ·rename_i dd cd sl ho
  split at q
  ·rename_i C' bm k0 k1 k2 k3 n k5 hm hs
   simp only [Bool.and_eq_true,beq_iff_eq,Bool.not_eq_true'] at q
   obtain⟨⟨⟨⟨⟨rfl,rfl⟩,hdel⟩,ht⟩,hok⟩,hni⟩:=q
   obtain⟨nm,bs,mro,ns,qn,hd,sn,sub,ab,col,del⟩:=cd
   dsimp only at hm hdel hok hni
   subst hm hdel
   have hsl:sl = #[k0,k1,k2,k3,some (.builtin "ValueError.__new__"),k5]:=by
    obtain⟨l⟩:=sl
    simp only at hs
    rw [hs]
   subst hsl
   exact⟨bm,ns,nm,qn,bs,hd,sn,sub,ab,col,dd,k0,k1,k2,k3,k5,_,X _ _ ho,.of_isNs (PySem.W.isNs_of_in X hok),PySem.W.nsMap_none_of_in X hok hni,PySem.W.tail_of_in X ht⟩
  ·cases q
 ·cases q
end
theorem Inv.there' {X:Cx} {pins:List (Addr×Obj)} {σ:L2.St} {H:Hp} {s:Shared} {a:Addr} {o:HO} (I:Inv X pins σ H s) (h:H a=some o):∃ u,s.heap.get? a=some u:=by
 have:=I.hok a o h
 cases o with
 | lst xs=>obtain⟨_,_,_,_,e⟩:=this; exact⟨_,e⟩
 | tup xs=>obtain⟨_,_,_,u,e,_⟩:=this; exact⟨u,e⟩
 | dK kvs=>obtain⟨_,_,_,_,u,_,_,e,_⟩:=this; exact⟨u,e⟩
 | dT kvs=>obtain⟨_,_,_,_,u,_,_,e,_⟩:=this; exact⟨u,e⟩
 | set S n=>obtain⟨u,_,_,_,e,_⟩:=this; exact⟨u,e⟩
 | ins C dx fs=>obtain⟨_,_,_,e,_⟩:=this; exact⟨_,e⟩
 | own y=>exact this
 | xd fs=>obtain⟨_,⟨_,_,_,e,_⟩,_⟩:=this; exact⟨_,e⟩
 | met f x=>exact⟨_,this⟩
 | rng lo hi=>obtain⟨_,_,_,e⟩:=this; exact⟨_,e⟩
 | frz u v=>exact⟨_,this.1⟩
 | tbl ps=>exact⟨_,this⟩
 | ext φ=>exact this.2.1
structure RaH (K:PySem.W.Frag) (mg:Str->Option Value) (ca:Nat->Addr) (c:Nat) (x:Str):Prop where
 at':mg x=some (.ref (ca c))
 ex:PySem.W.excIn K (ca c) bmV "ValueError.__new__" = true
section
variable {X:Cx} {ca:Nat->Addr} {e:Expr} {es:List Expr} {mr:MA} {np cpos pos:Pos} {c:Nat} {x:Str}
theorem QaG (h:RaH X.K X.mg ca c x) (hh:X.A.handled=none) (ha:PA3 ca X (e::es) mr) (hg:Gl X x:=by rfl) (hdb:(x == ("__debug__" : Str))=false:=by decide)
  (he:starEach (e::es) X.env=(false,eval e X.env)::starEach es X.env:=by rfl) (hpl:(backTo cpos (starEach es X.env)).any (·.1)=false:=by rfl):PS3 ca X (.Raise (some (.Call (.Name x np) (e::es) [] cpos)) none pos) (Qaz c mr):=by
 intro pn Φ pins s σ H En I ⟨σ3,g,μ,R,p⟩
 obtain⟨bm,N,nm,q,bs,hdct,sn,sub,ab,col,dd,k0,k1,k2,k3,k5,mN,hC,hN,hni,T⟩:=(Qip (h:=X.base) I.ok.mod.kin h.at' h.ex).obj
 refine wpAny_Raise_call_subT (C:=ca c) (nm:=nm) (q:=q) (N:=N) (bs:=bs) (bm:=bm) (hdct:=hdct) (sn:=sn) (sub:=sub) (ab:=ab) (col:=col) (dd:=dd) (k0:=k0) (k1:=k1) (k2:=k2) (k3:=k3) (k5:=k5)
  PySem.F.excBase_ValueError (mN:=mN) (T.hasType PySem.F.excBase_ValueError.hasBase) hh ?_ hni (QbE I hg h.at' ⟨rfl,?_⟩ hdb)
 ·show(backTo cpos (starEach (e::es) X.env)).any (·.1)=false
  rw [he]
  show(false || (backTo cpos (starEach es X.env)).any (·.1))=false
  rw [hpl]; rfl
 ·have z:upA X.K ca Φ mr σ H fun vs H1=>vs.length≤sizeLine∧Φ (c,none) σ H1:=by
   refine⟨σ3,g,μ,R,?_⟩
   unfold Qaz at p
   cases hm:mr σ3 g with
   | raise _ _=>rw [hm] at p; exact RaP.stmt R p
   | stuck=>rw [hm] at p; exact p
   | ok ds g1 =>
    rw [hm] at p
    dsimp only at p
    intro vs H1 μ1 e1 r1 q1
    by_cases hz:ds.length≤SZ
    ·rw [if_pos hz] at p
     exact⟨q1.sz hz,p σ H1 μ1 e1 (R.go e1 r1)⟩
    ·rw [if_neg hz] at p; exact p.elim
  have az:=ha pn Φ cpos pins s σ H _ I z
  have he':starEach (e::es) (xat X ca pn Φ).env=(false,eval e X.env)::starEach es X.env:=he
  show wpAny _ _ (evalArgs (.ref (ca c)) true (backTo cpos (starEach (e::es) X.env)) []) _ _ s
  rw [he'] at az
  rw [he]
  refine Calls.evalArgs_plain (wpAny_mono az (fun us s2 ⟨vs,H1,I1,r1,hz,hΦ⟩=>⟨rfl,by rw [← r1.length]; exact hz,I1.bk _ _ hC,hN.keeps I1.bk,T.keeps I1.bk,fun h' ea hm=>?_⟩) fun _ _ y=>y)
  have I2:Inv (xon X pn) [] σ H1 s2:=(Qhp I1).pins_of fun p hp=>absurd hp (by simp)
  have I3:Inv (xon X pn) [] σ H1 { s2 with heap:=h' }:=I2.kept (t':=s2.toks) hm.keeps
  have hn:H1 ea=none:=by
   cases hq:H1 ea with
   | none=>rfl
   | some o =>
    obtain⟨o',ho'⟩:=Inv.there' I2 hq
    rw [hm.new] at ho'; cases ho'
  obtain⟨t,ht,_⟩:=hm.there
  exact⟨ea,(c,none),σ,H1,rfl,I3,⟨QdI I2 hm.new hn,rfl,_,_,ht,⟨rfl,rfl⟩,rfl,by simp,.inl rfl⟩,hΦ⟩
end
end L3
end
section
namespace L3
open PySem PySem.Spec PyProof.Rows L2
structure CatX (K:PySem.W.Frag) (ca:Nat->Addr) (C:Addr) (cs no:List Nat):Prop where
 ci:(PySem.W.clsIn K C).isSome=true
 ty:PySem.W.typeIn K (.ref C)=some (.type "type")
 sb:PySem.W.subIn K (.ref C) (.type "BaseException")=some true
 yes:∀ c∈cs,PySem.W.subIn K (.ref (ca c)) (.ref C)=some true
 no':∀ c∈no,PySem.W.subIn K (.ref (ca c)) (.ref C)=some false
section
variable {prog:Program} {w:World} {A:Around} {E:Value->Shared->Prop} {s:Shared} {K:PySem.W.Frag} {ca:Nat->Addr} {C D e:Addr} {oe:Obj} {cs no:List Nat} {b:Bool}
theorem Qfz {Q:Bool->Shared->Prop} (X:K.In s.heap) (F:CatX K ca C cs no) (hx:s.heap.get? e=some oe) (hc:oe.cls=.ref D) (hs:PySem.W.subIn K (.ref D) (.ref C)=some b) (h:Q b s):wpAny (model prog w) A (excMatches (.ref e) (.ref C)) Q E s:=by
 obtain⟨hh,g,d,t,os⟩:=s
 have L0:=PySem.W.looks_typeIn (M:=model prog w) X F.ty
 have L1:=PySem.W.looks_subIn (M:=model prog w) X F.sb
 have L2:=PySem.W.looks_subIn (M:=model prog w) X hs
 have L3:PySem.W.Looks (model prog w) hh (isType (.ref C)) true:=by
  obtain⟨cd,hc⟩:=Option.isSome_iff_exists.mp F.ci
  unfold PySem.W.clsIn at hc
  split at hc
  ·rename_i c' d' cd' sl' ho
   intro A' Q' E' s' k q
   unfold isType loadHead
   exact wpAny_bind (wpAny_loadPart (k _ _ (X _ _ ho)) (wpAny_pure q))
  ·cases hc
 have f:=tc_notTuple
 unfold excMatches isInstance
 refine wpAny_bind (wpAny_bind (L0.at (wpAny_of_eq f ?_)))
 simp only [Bool.false_eq_true,if_false]
 refine wpAny_bind (wpAny_pure ?_)
 simp only [List.forIn_cons,List.forIn_nil]
 unfold isExcClass
 refine wpAny_bind (wpAny_bind (wpAny_bind (wpAny_bind (L3.at ?_))))
 rw [if_pos rfl]
 refine L1.at ?_
 simp only [Bool.not_true,Bool.false_eq_true,if_false]
 refine wpAny_pure (wpAny_pure ?_)
 have L4:PySem.W.Looks (model prog w) hh (typeOf (.ref e)) (.ref D):=hc ▸ (PySem.W.Looks.ld hx).andThen .now
 refine wpAny_bind (L4.at (wpAny_bind (wpAny_bind (wpAny_bind (L2.at ?_)))))
 cases b with
 | true=>rw [if_pos rfl]; exact wpAny_pure (wpAny_pure (wpAny_pure h))
 | false=>rw [if_neg Bool.false_ne_true]; exact wpAny_pure (wpAny_pure (wpAny_pure h))
end
noncomputable abbrev xmk (X:Cx) (v:Value):Cx:={ X with A:=X.A.mark (some v),calm:=false }
section
variable {X:Cx} {ca:Nat->Addr} {pins:List (Addr×Obj)} {σ:L2.St} {H:Hp} {s:Shared} {a:Addr} {x:Xc}
theorem Qht (v:Value) (I:Inv X pins σ H s):Inv (xmk X v) pins σ H s :=
 ⟨⟨I.ok.mod,I.ok.kind,I.ok.glob,I.ok.blt,I.ok.above,I.ok.inj,I.ok.has,I.ok.cab,(fun z=>by cases z),I.ok.frames,I.ok.stk,I.ok.exf,I.ok.bs,I.ok.bsz,I.ok.noex,I.ok.exfs,I.ok.funs,I.ok.frf⟩,I.os,I.bare,I.base,I.loc,I.cell,I.free,I.freeC,I.pin,I.hok,I.len⟩
theorem QdR {v:Value} (h:X.calm=true->X.A.handled=none) (I:Inv (xmk X v) pins σ H s):Inv X pins σ H s :=
 ⟨⟨I.ok.mod,I.ok.kind,I.ok.glob,I.ok.blt,I.ok.above,I.ok.inj,I.ok.has,I.ok.cab,h,I.ok.frames,I.ok.stk,I.ok.exf,I.ok.bs,I.ok.bsz,I.ok.noex,I.ok.exfs,I.ok.funs,I.ok.frf⟩,I.os,I.bare,I.base,I.loc,I.cell,I.free,I.freeC,I.pin,I.hok,I.len⟩
theorem Qet {o:HO} (I:Inv X pins σ H s) (ha:FpW X pins H a) (new:ObjOk X.prog X.w (upd H a o) s.heap a o):Inv X pins σ (upd H a o) s:=by
 have ne:∀ b u,H b=some u->b≠a:=fun b u e=>QI e ha.1
 refine QcF (h':=s.heap) (H':=upd H a o) (g':=s.gens) (t':=s.toks) (d':=s.drawn) (ch:=[a]) I (fun b hb=>?_) (fun b o _ _ _ e _=>e) (fun b o _ _ _ e _=>⟨o.slots,e⟩) (fun b o hb e n=>?_) (fun b o _ e=>⟨o,e⟩)
  (fun b xs e=>by rw [Qw (ne b _ e)]; exact e) (fun b o u e=>by rw [Qw (ne b _ e)]; exact e) (fun b ps e=>⟨#[],by rw [Qw (ne b _ e),e]; simp⟩) (fun _ h=>h) (fun b u e=>?_) I.bare
 ·rw [List.mem_singleton.mp hb]
  exact⟨ha.2.2.2.1,ha.2.1,ha.2.2.2.2.1,ha.2.2.2.2.2⟩
 ·rw [Qw (fun z=>hb (by simp [z]))]; exact n
 ·by_cases hb:b=a
  ·subst hb; rw [Qt] at e; cases e; exact new
  ·rw [Qw hb] at e
   exact(I.hok b u e).stay (fun _ _ _ q=>q) (fun c q=>by rw [Qw (ne c _ q)]; exact q) fun c xs q=>by rw [Qw (ne c _ q)]; exact q
theorem QfA {M:Model} {A:Around} {E:Value->Shared->Prop} {i:Nat} {n:Str} {pos:Pos} {Q:Unit->Shared->Prop} (I:Inv X pins σ H s) (hN:X.N.Nodup) (hi:X.N[i]?=some n) (hl:X.env.kindOf n=some .local)
  (h:∀ s',Inv X pins (σ.set i none) H s'->Q () s'):wpAny M A (do bindName X.env n .none; unbindBehindTheSuite X.env n pos) Q E s:=by
 obtain⟨m,hn,hlk⟩:=id I.loc
 have hcls:(X.env.scope.kind == .class || (X.env.scope.kind == .module && X.env.locals != X.env.globals))=false:=by rw [I.ok.kind]; rfl
 refine wpAny_nameGoes_keeps hl hn hcls fun h' v hn' hs=>h _ ?_
 have old:∀ b o,b≠X.env.locals->s.heap.get? b=some o->h'.get? b=some o:=fun b o hb e=>(hs.2 b hb).trans e
 have neL:∀ b o,X.s₀.heap.get? b=some o->b≠X.env.locals:=fun b o e=>Nat.ne_of_lt (Nat.lt_of_lt_of_le (Heap.lt_size e) I.ok.above)
 obtain⟨oL,_,_,hoL,_⟩:=id hn
 refine⟨I.ok,I.os,I.bare,⟨fun b o e n hb hx=>old b o (neL b o e) (I.base.keep b o e n hb hx),fun b o e n hb hx=>?_,I.base.free,fun b o e hx=>?_,I.base.tups,I.base.frzs,I.base.tbls⟩,⟨_,hn',fun j y u e1 e2 e3=>?_⟩,fun y c e=>?_,I.free,I.freeC,fun p hp=>?_,fun b o e=>?_,by simpa using I.len⟩
 ·obtain⟨sl,z⟩:=I.base.slot b o e n hb hx
  exact⟨sl,old b _ (neL b o e) z⟩
 ·obtain⟨o',z⟩:=I.base.there b o e hx
  exact⟨o',old b _ (neL b o e) z⟩
 ·have hj:j≠i:=fun z=>by
   subst z
   rw [List.getElem?_set] at e2
   split at e2
   ·split at e2 <;> simp at e2
   ·rename_i q; exact q rfl
  rw [List.getElem?_set_ne (Ne.symm hj)] at e2
  obtain⟨u',r',q⟩:=hlk j y u e1 e2 e3
  refine⟨u',r',?_⟩
  rcases q with⟨k,e⟩ | ⟨k,c,e,z⟩
  ·refine .inl ⟨k,?_⟩
   have:y≠n:=fun e=>hj (QbD hN e1 (e ▸ hi))
   simp [this,e]
  ·exact .inr ⟨k,c,e,z.sameBut hs (I.cne y c e)⟩
 ·obtain⟨w',z⟩:=I.cell y c e
  exact⟨w',z.sameBut hs (I.cne y c e)⟩
 ·obtain⟨e,n,ne,nf,d⟩:=I.pin p hp
  exact⟨old p.1 _ ne e,n,ne,nf,d⟩
 ·refine(I.hok b o e).stay (fun c w' hc q=>old c _ ?_ q) (fun _ q=>q) fun _ _ q=>q
  rintro rfl
  rcases hc with z | z
  ·rw [← z,I.free] at e; cases e
  ·rw [I.free] at z; cases z
end
end L3
end
section
namespace L3
open PySem PySem.Spec PyProof.Rows L2
section
variable {X:Cx} {ca:Nat->Addr} {body suite:List Stmt} {b0:Stmt} {mb mc:MS} {np hpos pos:Pos} {C:Addr} {cs no:List Nat} {T n:Str}
theorem QjX {Y:Cx} {pn pins:List (Addr×Obj)} {E E':Value->Shared->Prop} {σ:L2.St} {H:Hp} {s:Shared} (I:Inv { Y with pn:=pn,xe:=E } pins σ H s):Inv { Y with pn:=pn++pins,xe:=E' } [] σ H s :=
 ⟨⟨I.ok.mod,I.ok.kind,I.ok.glob,I.ok.blt,I.ok.above,I.ok.inj,I.ok.has,I.ok.cab,I.ok.hd,I.ok.frames,I.ok.stk,I.ok.exf,I.ok.bs,I.ok.bsz,I.ok.noex,I.ok.exfs,I.ok.funs,I.ok.frf⟩,I.os,I.bare,I.base,I.loc,I.cell,I.free,I.freeC,fun p hp=>I.pin p (by rw [List.append_nil] at hp; exact hp),I.hok,I.len⟩
theorem QaH {Y:Cx} {pn pins:List (Addr×Obj)} {E E':Value->Shared->Prop} {σ:L2.St} {H:Hp} {s:Shared} (I:Inv { Y with pn:=pn++pins,xe:=E } [] σ H s):Inv { Y with pn:=pn,xe:=E' } pins σ H s :=
 ⟨⟨I.ok.mod,I.ok.kind,I.ok.glob,I.ok.blt,I.ok.above,I.ok.inj,I.ok.has,I.ok.cab,I.ok.hd,I.ok.frames,I.ok.stk,I.ok.exf,I.ok.bs,I.ok.bsz,I.ok.noex,I.ok.exfs,I.ok.funs,I.ok.frf⟩,I.os,I.bare,I.base,I.loc,I.cell,I.free,I.freeC,fun p hp=>I.pin p (by rw [List.append_nil]; exact hp),I.hok,I.len⟩
theorem QfB {pn:List (Addr×Obj)} {σ:L2.St} {H:Hp} {s:Shared} {a:Addr} {x:Xc} {oe:Obj} {R:Result->Shared->Prop} {b:Bool} (I:Inv (xon X pn) [] σ H s) (hT:X.mg T=some (.ref C)) (F:CatX X.K ca C cs no) (he:s.heap.get? a=some oe) (ho:XOb ca x oe)
  (hs:PySem.W.subIn X.K (.ref (ca x.1)) (.ref C)=some b) (hg:Gl X T) (hdb:(T == ("__debug__" : Str))=false) (h:R (.ok (if b then .brk else .next)) s) :
  codeAny (model X.prog X.w) (X.A.mark (some (.ref a))) (.handlers (.ref a) [.ExceptHandler (some (.Name T np)) none [] hpos] X.env) R s :=
 codeAny_handlers_test (QbE (X:=xmk (xon X pn) (.ref a)) (Qht _ I) hg hT (Qfz I.kIn F he ho.1 hs h) hdb)
theorem Qiq {pn pins:List (Addr×Obj)} {Φ:XS} {σ:L2.St} {H:Hp} {s:Shared} {a:Addr} {x:Xc} {Q:Flow->Shared->Prop} (hf:X.env.frame=some X.env.locals) (I:Inv (xon X (pn++pins)) [] σ H s) (fl:FlT (xon X (pn++pins)) ca a x H s.heap) (h:Φ x σ H) :
  wpAny (model X.prog X.w) X.A (handleBy (.ref a) X.env []) Q (xat X ca pn Φ).xe s:=by
 refine wpAny_handleBy_nil ?_
 unfold PySem.passOn
 obtain⟨fp,ln,oe,vs,T,oT,ts,he,hc,hd,hv,hTa,fT,hT,hdT,hs3⟩:=id fl
 refine wpAny_bind (wpAny_field he hd hv ?_)
 rw [if_neg (show ¬ ((Value.ref T == Value.none)=true) from by simp)]
 refine wpAny_bind (YL (fo:=X.env.frame) I fl fun h2 T oT ts oe vs I2 a1 a2 a3 a4 a5 a6 a7 a8 a9 a10=>wpAny_throw ?_)
 rw [hf] at a10
 have dn:∀ {b:Addr},FpW (xon X (pn++pins)) [] H b->FpW (xon X pn) [] H b:=fun z=>⟨z.1,z.2.1,z.2.2.1,z.2.2.2.1,z.2.2.2.2.1,fun p hp=>z.2.2.2.2.2 p (by rw [List.append_nil] at hp ⊢; exact List.mem_append_left _ hp)⟩
 exact⟨a,x,σ,H,rfl,(QaH (Y:=X) I2).pins_of fun p hp=>absurd hp (by simp),FlN.fl ⟨dn fp,ln,oe,vs,T,oT,ts,a1,a2,a3,a4,a5,dn a6,a7,a8,a10⟩,h⟩
theorem QgL {hs:List MH} {h0:ExceptHandler} {hr:List ExceptHandler} (hb:PSs3 ca X body mb) (hk:X.stack=X.env::X.outer) (hf:X.env.frame=some X.env.locals)
  (hh:∀(pn pins:List (Addr×Obj)) (Φ:XS) (En:Ends) (σ:L2.St) (H:Hp) (s:Shared) (a:Addr) (x:Xc) (σ3:S3) (g:G) (μ:List Addr),(X.calm=true->X.A.handled=none)->Inv (xon X (pn++pins)) [] σ H s->FlT (xon X (pn++pins)) ca a x H s.heap->Rep X.K ca μ σ3 g σ H->PostS X.K ca Φ En H μ (runH hs x σ3 g) ->
   wpAny (model X.prog X.w) X.A (handleBy (.ref a) X.env (h0::hr)) (SP (xat X ca pn Φ) pins En) (xat X ca pn Φ).xe s):PS3 ca X (.Try body (h0::hr) [] [] pos) (mTry mb hs):=by
 intro pn Φ pins s σ H En I ⟨σ3,g,μ,R,p⟩
 refine wpAny_Try_except ?_
 have p1:PostS X.K ca (fun x σ' H'=>∃ σ4 g4 μ4,Rep X.K ca μ4 σ4 g4 σ' H'∧PostS X.K ca Φ En H' μ4 (runH hs x σ4 g4)) En H μ (mb σ3 g):=by
  unfold mTry at p
  cases hm:mb σ3 g with
  | nx _ _=>rw [hm] at p; exact p
  | rt _ _=>rw [hm] at p; exact p
  | bk _ _=>rw [hm] at p; exact p
  | ct _ _=>rw [hm] at p; exact p
  | raise x σ' g'=>rw [hm] at p; exact fun σ4 H' μ' e R'=>⟨σ',g',μ',R',PostS.go e p⟩
  | stuck=>rw [hm] at p; exact p
 refine wpAny_mono (hb (pn++pins) _ [] s σ H En (QjX (Y:=X) I) ⟨σ3,g,μ,R,p1⟩) (fun f s1 h1=>?_) fun v s1 h1=>?_
 ·cases f with
  | next=>obtain⟨σ',H',J,q⟩:=h1; exact QeT (X:=xat X ca pn Φ) pins s1 σ' H' En (QaH (Y:=X) J) q
  | brk=>obtain⟨σ',H',J,q⟩:=h1; exact⟨σ',H',QaH (Y:=X) J,q⟩
  | cont=>obtain⟨σ',H',J,q⟩:=h1; exact⟨σ',H',QaH (Y:=X) J,q⟩
  | ret u=>obtain⟨v,σ',H',J,r,q⟩:=h1; exact⟨v,σ',H',QaH (Y:=X) J,r,q⟩
 ·obtain⟨a,x,σ',H',rfl,I1,fl,σ4,g4,μ4,R4,p4⟩:=h1
  refine Qc9 (X:=xon X (pn++pins)) I1 hk hf fl fun h2 I2 f2=>?_
  refine YL (X:=xon X (pn++pins)) (fo:=none) I2 f2.t fun h3 T oT ts oe vs I3 a1 a2 a3 a4 a5 a6 a7 a8 a9 a10=>?_
  exact hh pn pins Φ En σ' H' _ a x σ4 g4 μ4 I.ok.hd I3 ⟨f2.1,f2.2.1,oe,vs,T,oT,ts,a1,a2,a3,a4,a5,a6,a7,a8,a9⟩ R4 p4
theorem Qir (i:Nat) (hN:X.N.Nodup) (hT:X.mg T=some (.ref C)∧CatX X.K ca C cs no) (hb:PSs3 ca X body mb) (hc:∀ a,PSs3 ca (xmk X (.ref a)) (b0::suite) mc) (hi:X.N[i]?=some n:=by rfl) (hl:X.env.kindOf n=some .local:=by rfl)
  (hg:Gl X T:=by rfl) (hdb:(T == ("__debug__" : Str))=false:=by decide) (hk:X.stack=X.env::X.outer:=by rfl) (hf:X.env.frame=some X.env.locals:=by rfl) :
  PS3 ca X (.Try body [.ExceptHandler (some (.Name T np)) (some n) (b0::suite) hpos] [] [] pos) (mTry mb [⟨cs,no,some i,mc⟩]):=by
 refine QgL hb hk hf fun pn pins Φ En σ H s a x σ3 g μ hcalm I fl R p=>?_
 obtain⟨fp,ln,oe,vs,Tb,oT,ts,he,hox,hd,hv,hTa,fT,hTT,hdT,hs3⟩:=id fl
 unfold runH at p
 by_cases hx:x.1∈cs
 ·rw [if_pos hx] at p
  dsimp only at p
  refine wpAny_handleBy_cons (QfB I hT.1 hT.2 he hox (hT.2.yes _ hx) hg hdb ?_) (by intro q; cases q)
  refine codeAny_handlers_suite_as ?_
  refine YL (fo:=none) I fl fun h2 T2 oT2 ts2 oe2 vs2 I2 b1 b2 b3 b4 b5 b6 b7 b8 b9 b10=>?_
  have I3:Inv (xon X (pn++pins)) [] σ (upd H a (XO ca a x)) { s with heap:=h2 }:=Qet I2 fp ⟨⟨oe2,vs2,b1,b2,b3⟩,⟨oe2,b1⟩,fun h3 h4 ⟨o,ws,c1,c2,c3⟩ k=>⟨o,ws,k o c1,c2,c3⟩⟩
  have ex:Ext X.K μ H (μ++[a]) (upd H a (XO ca a x)):=QD fp.1
  have G3:GRep X.K ca (μ++[a]) (upd H a (XO ca a x)) (g++[.exc x]):=R.g.push fp.1 Qt
  have ea:(μ++[a])[g.length]?=some a:=by rw [← R.g.len]; simp
  refine Qaf (X:=xmk (xon X (pn++pins)) (.ref a)) (Qht _ I3) hN hi (.inl hl) (v:=.ref a) rfl (fun s4 I4=>?_) (.inr hl)
  have R4:Rep X.K ca (μ++[a]) (σ3.set i (some (.ref g.length))) (g++[.exc x]) (σ.set i (some (.ref a))) (upd H a (XO ca a x)):=(R.go ex G3).set (.ref ea) i
  have hcc:=hc a (pn++pins) F0 [] s4 (σ.set i (some (.ref a))) (upd H a (XO ca a x)) { nx:=fun σ' H'=>En.nx (σ'.set i none) H',rt:=En.rt } (Inv.wish I4 _) ⟨_,_,_,R4,by
   cases hm:mc (σ3.set i (some (.ref g.length))) (g++[.exc x]) with
   | nx σ5 g5 =>
    rw [hm] at p
    intro σ' H' μ' e' R'
    refine p (σ'.set i none) H' μ' (ex.trans e') ⟨R'.g,by rw [List.length_set,List.length_set,R'.len],fun j d hj=>?_⟩
    have hji:j≠i:=fun z=>by
     subst z
     rw [List.getElem?_set] at hj
     split at hj
     ·split at hj <;> simp at hj
     ·rename_i q; exact q rfl
    rw [List.getElem?_set_ne (Ne.symm hji)] at hj ⊢
    exact R'.st j d hj
   | rt d g5=>rw [hm] at p; exact fun v H' μ' e'=>p v H' μ' (ex.trans e')
   | bk _ _=>rw [hm] at p; exact p.elim
   | ct _ _=>rw [hm] at p; exact p.elim
   | raise _ _ _=>rw [hm] at p; exact p.elim
   | stuck=>rw [hm] at p; exact p.elim⟩
  refine wpAny_mono (noX hcc) (fun f s5 h5=>?_) fun _ _ z=>z.elim
  cases f with
  | next =>
   obtain⟨σ',H',J,q⟩:=h5
   have J':Inv (xon X (pn++pins)) [] σ' H' s5:=QdR (v:=.ref a) hcalm (Inv.wish J _)
   exact QfA (X:=xon X (pn++pins)) J' hN hi hl fun s6 J6=>⟨_,H',QaH (Y:=X) J6,q⟩
  | ret u =>
   obtain⟨v,σ',H',J,r,q⟩:=h5
   have J':Inv (xon X (pn++pins)) [] σ' H' s5:=QdR (v:=.ref a) hcalm (Inv.wish J _)
   exact QfA (X:=xon X (pn++pins)) J' hN hi hl fun s6 J6=>⟨v,_,H',QaH (Y:=X) J6,r,q⟩
  | brk=>obtain⟨_,_,_,q⟩:=h5; exact q.elim
  | cont=>obtain⟨_,_,_,q⟩:=h5; exact q.elim
 ·rw [if_neg hx] at p
  by_cases hn:x.1∈no
  ·rw [if_pos hn] at p
   refine wpAny_handleBy_cons (QfB I hT.1 hT.2 he hox (hT.2.no' _ hn) hg hdb ?_) (by intro q; cases q)
   exact Qiq hf I fl (p σ H μ .refl R)
  ·rw [if_neg hn] at p; exact p.elim
end
end L3
end
section
namespace L3
open PySem PySem.Spec PyProof.Rows L2
noncomputable def bchk (sc scope:Scope) (N Nb:List Str) (no:Nat) (cap:List Nat):Bool :=
 decide (scope.kind=.function) && scope.names.all (fun y=>decide (y.2≠.cell)) && scope.names.all (fun y=>decide (y.2≠.local) || decide (scope.names.lookup y.1=some .local)) &&
 scope.names.all (fun y=>decide (y.2≠.free) || decide (sc.names.lookup y.1=some .cell) || decide (sc.names.lookup y.1=some .free)) && decide (Nb.length=no+cap.length) &&
 (List.range cap.length).all fun j=>match cap[j]?,Nb[no+j]? with
  | some i,some x=>decide (N[i]?=some x) && decide (scope.names.lookup x=some .free) && (decide (sc.names.lookup x=some .cell) || decide (sc.names.lookup x=some .free))
  | _,_=>false
theorem ZD {X:Cx} {scope sc:Scope} {N Nb:List Str} {no:Nat} {cap:List Nat} (hsc:X.env.scope=sc) (hN:X.N=N) (h:bchk sc scope N Nb no cap=true):BScope X scope Nb no cap:=by
 subst hsc hN
 unfold bchk at h
 simp only [Bool.and_eq_true,decide_eq_true_eq] at h
 obtain⟨⟨⟨⟨⟨h1,h2⟩,h3⟩,h4⟩,h5⟩,h6⟩:=h
 rw [List.all_eq_true] at h2 h3 h4 h6
 refine⟨h1,fun y hy=>of_decide_eq_true (h2 y hy),fun y hy e=>?_,fun y hy e=>?_,h5,fun j i hj=>?_⟩
 ·rcases Bool.or_eq_true_iff.mp (h3 y hy) with z | z
  ·exact absurd e (of_decide_eq_true z)
  ·exact of_decide_eq_true z
 ·rcases Bool.or_eq_true_iff.mp (h4 y hy) with z | z
  ·rcases Bool.or_eq_true_iff.mp z with z | z
   ·exact absurd e (of_decide_eq_true z)
   ·exact .inl (of_decide_eq_true z)
  ·exact .inr (of_decide_eq_true z)
 ·have hl:j<cap.length:=(List.getElem?_eq_some_iff.mp hj).1
  have z:=h6 j (List.mem_range.mpr hl)
  rw [hj] at z
  cases hx:Nb[no+j]? with
  | none=>rw [hx] at z; cases z
  | some x =>
   rw [hx] at z
   simp only [Bool.and_eq_true,Bool.or_eq_true,decide_eq_true_eq] at z
   obtain⟨⟨z1,z2⟩,z3⟩:=z
   refine⟨x,rfl,z1,z2,.inr z3,fun q=>?_⟩
   have q:X.env.scope.names.lookup x=some .local:=q
   rcases z3 with z | z
   ·rw [z] at q; cases q
   ·rw [z] at q; cases q
noncomputable def exkB (K:PySem.W.Frag) (C:Addr):Bool :=
 (PySem.W.findIn K (.ref C) "__getattribute__" == some (some (.builtin "BaseException.__getattribute__"))) && (PySem.W.findIn K (.ref C) "__getattr__" == some none) && (PySem.W.findIn K (.ref C) "__class__" == some (some (.builtin "object.__class__"))) &&
 (PySem.W.specialIn K (.builtin "object.__class__") "__get__" == some (some (.builtin "getset_descriptor.__get__"))) && (PySem.W.takesIn K (.builtin "object.__class__") == some true) && (PySem.W.mroIn K C (.type "object") == some true) &&
 (PySem.W.subIn K (.ref C) (.type "BaseException") == some true) && (PySem.W.clsIn K C).isSome
theorem QjY {K:PySem.W.Frag} {C:Addr} (h:exkB K C=true):ExK K C:=by
 unfold exkB at h
 simp only [Bool.and_eq_true,beq_iff_eq] at h
 obtain⟨⟨⟨⟨⟨⟨⟨h1,h2⟩,h3⟩,h4⟩,h5⟩,h6⟩,h7⟩,h8⟩:=h
 exact⟨h1,h2,h3,h4,h5,h6,h7,h8⟩
noncomputable def isxB (K:PySem.W.Frag) (ca:Nat->Addr) (T:Value) (all cs:List Nat):Bool:=all.all (fun c=>exkB K (ca c) && (PySem.W.kitOne K (.ref (ca c)) T == some (decide (c∈cs)))) && (PySem.W.kitOne K (.type "NoneType") T == some false)
theorem YQ {K:PySem.W.Frag} {ca:Nat->Addr} {T:Value} {all cs:List Nat} (h:isxB K ca T all cs=true):IsX K ca T all cs:=by
 unfold isxB at h
 rw [Bool.and_eq_true,List.all_eq_true] at h
 exact⟨fun c hc=>QjY (Bool.and_eq_true_iff.mp (h.1 c hc)).1,fun c hc=>beq_iff_eq.mp (Bool.and_eq_true_iff.mp (h.1 c hc)).2,beq_iff_eq.mp h.2⟩
noncomputable def catB (K:PySem.W.Frag) (ca:Nat->Addr) (C:Addr) (cs no:List Nat):Bool:=(PySem.W.clsIn K C).isSome && (PySem.W.typeIn K (.ref C) == some (.type "type")) && (PySem.W.subIn K (.ref C) (.type "BaseException") == some true) &&
 cs.all (fun c=>PySem.W.subIn K (.ref (ca c)) (.ref C) == some true) && no.all fun c=>PySem.W.subIn K (.ref (ca c)) (.ref C) == some false
theorem QjZ {K:PySem.W.Frag} {ca:Nat->Addr} {C:Addr} {cs no:List Nat} (h:catB K ca C cs no=true):CatX K ca C cs no:=by
 unfold catB at h
 simp only [Bool.and_eq_true,beq_iff_eq,List.all_eq_true] at h
 obtain⟨⟨⟨⟨h1,h2⟩,h3⟩,h4⟩,h5⟩:=h
 exact⟨h1,h2,h3,h4,h5⟩
section
variable {X:Cx} {ca:Nat->Addr} {pos:Pos} {x:Str}
theorem J7 {t:Str} (h:∃ k,X.mg x=some (.str t k)) (hg:Gl X x:=by rfl) (hd:(x == ("__debug__" : Str))=false:=by decide):PE3 ca X (.Name x pos) (mLit (.str t)):=by
 obtain⟨k,h⟩:=h
 exact Qho h (v:=.str t) ⟨k,rfl⟩ (fun _ _ _=>.str t) hg hd
theorem Qj0 {i:Int} (h:∃ k,X.mg x=some (.int i k)) (hg:Gl X x:=by rfl) (hd:(x == ("__debug__" : Str))=false:=by decide):PE3 ca X (.Name x pos) (mLit (.int i)):=by
 obtain⟨k,h⟩:=h
 exact Qho h (v:=.int i) ⟨k,rfl⟩ (fun _ _ _=>.int i) hg hd
end
theorem Qhu:bootBuiltins "int" = some (.type Ty.int.name):=boot_int
theorem QfC:bootBuiltins "bool" = some (.type Ty.bool.name):=by decide +kernel
theorem Qhv:bootBuiltins "str" = some (.type Ty.str.name):=by decide +kernel
theorem Y2:bootBuiltins "tuple" = some (.type Ty.tuple.name):=boot_tuple
theorem Qdd:bootBuiltins "list" = some (.type Ty.list.name):=boot_list
theorem QfD:bootBuiltins "dict" = some (.type Ty.dict.name):=by decide +kernel
theorem QbR:bootBuiltins "ValueError" = some (.type "ValueError"):=by decide +kernel
section
variable {P:Program} {w:World} {K:PySem.W.Frag} {mg:Str->Option Value} {base:Heap} {ca:Nat->Addr}
theorem Qis {f:Addr} {fd:FuncData} {ps:List Str} {k n:Nat} (hn:ps.length=n):FnOk P w K mg base (CXW P w ca) k f fd ps (spM K ca n fun _ _=>.stuck):=by
 subst hn
 exact⟨fun vs H Q E q=>q.1,fun A outer s H args us vs Q E _ _ _ _ h=>by obtain⟨_,_,_,_,_,_,z⟩:=h; exact z.elim⟩
theorem Qj1 {F:MF} {H:Hp} {a:Addr} {ns:List Int} (hO:Only H) (hS:SqL K H a (ns.map V.int)) (h:∃ g',F [.fl (ns.map D.int)] []=.ok (.bl true) g'):spM K ca 1 F [.ref a] H (fun v _=>v=.bl true) fun _ _ _=>False:=by
 obtain⟨g',h⟩:=h
 have hF:SqF K H a (ns.map V.int):=by
  rcases hS with(h | ⟨o,h⟩) | h
  ·rcases hO a with z | ⟨o,xs,z⟩
   ·rw [h] at z; cases z
   ·rw [h] at z; cases z
  ·exact .inl ⟨o,h⟩
  ·exact .inr (.inr h)
 refine⟨rfl,[.fl (ns.map D.int)],[],[],⟨rfl,.nil,fun n a o h=>by simp at h⟩,.cons (.fl hF (Dens.ints ns)) .nil,?_⟩
 rw [h]
 intro v H' μ' e r q
 cases q
 rfl
end
end L3
end
section
namespace L3
open PySem PySem.Spec
theorem len0 {α:Type} {us:List α} (h:us.length=0):us=[]:=List.eq_nil_of_length_eq_zero h
theorem len1 {α:Type} {us:List α} (h:us.length=1):∃ a0,us=[a0]:=by
 cases us with
 | nil=>cases h
 | cons a r =>
  have e:=len0 (Nat.succ.inj h)
  subst e
  exact⟨a,rfl⟩
theorem len2 {α:Type} {us:List α} (h:us.length=2):∃ a0 a1,us=[a0,a1]:=by
 cases us with
 | nil=>cases h
 | cons a r =>
  obtain⟨b0,rfl⟩:=len1 (Nat.succ.inj h)
  exact⟨a,b0,rfl⟩
theorem len3 {α:Type} {us:List α} (h:us.length=3):∃ a0 a1 a2,us=[a0,a1,a2]:=by
 cases us with
 | nil=>cases h
 | cons a r =>
  obtain⟨b0,b1,rfl⟩:=len2 (Nat.succ.inj h)
  exact⟨a,b0,b1,rfl⟩
theorem len4 {α:Type} {us:List α} (h:us.length=4):∃ a0 a1 a2 a3,us=[a0,a1,a2,a3]:=by
 cases us with
 | nil=>cases h
 | cons a r =>
  obtain⟨b0,b1,b2,rfl⟩:=len3 (Nat.succ.inj h)
  exact⟨a,b0,b1,b2,rfl⟩
noncomputable def Qhw:Expr->Bool
 | .Starred ..=>false
 | _=>true
theorem QfE {e:Expr} {es:List Expr} {env:Env} (h:Qhw e=true):starEach (e::es) env=(false,eval e env)::starEach es env:=by
 cases e <;> first | rfl | exact absurd h Bool.false_ne_true
variable {P:Program} {w:World} {K:PySem.W.Frag} {mg:Str->Option Value} {base:Heap} {ca:Nat->Addr} {X:L2.Cx}
theorem Qc {e:Expr} {es:List Expr} {me:ME} {mr:MA} (ha:PE3 ca X e me) (hr:PA3 ca X es mr) (hs:Qhw e=true:=by rfl):PA3 ca X (e::es) (Qa me mr):=Jw ha hr (QfE hs)
noncomputable def Qhx:Expr->Bool
 | .ListComp ..=>false
 | .SetComp ..=>false
 | .DictComp ..=>false
 | _=>true
theorem Qit {e:Expr} {t:Option Expr} {l:Nat} {env:Env} (h:Qhx e=true):swapsWith e t l env=pure false:=by
 cases e <;> first | rfl | exact absurd h Bool.false_ne_true
theorem QY (i:Nat) {x:Str} {pos pos':Pos} {e:Expr} {me:ME} (hN:X.N.Nodup) (he:PE3 ca X e me) (hi:X.N[i]?=some x:=by rfl) (hx:L2.Loc X.env.scope x:=by first | exact Or.inl rfl | exact Or.inr rfl)
  (hs:Qhx e=true:=by rfl) (hf:X.fn x=true∨X.env.scope.names.lookup x=some .local:=by first | exact .inl rfl | exact .inr rfl) :
  PS3 ca X (.Assign [.Name x pos'] e pos) (mAsg (gSet i) me):=QkS i hN he hi hx (Qit hs) hf
end L3
end
section
namespace PySem
namespace F
end F
end PySem
end
section
namespace L3
open PySem PySem.Spec PyProof.Rows PySem.Calls
section
variable {prog:Program} {w:World} {A:Around} {E:Value->Shared->Prop} {s:Shared}
noncomputable def IsRevT (h:Heap) (a l:Addr) (i:Int):Prop:=∃ o,h.get? a=some o∧o.cls=.type "reversed" ∧ o.data=.fields #[.ref l,rawInt i]
theorem IsRevT.typeIs {a l:Addr} {i:Int} (x:IsRevT s.heap a l i):s.TypeIs (.ref a) "reversed":=let ⟨o,ho,hc,_⟩:=x; ⟨o,ho,hc⟩
theorem IsRevT.at {h h':Heap} {a l:Addr} {i:Int} (x:IsRevT h a l i) (e:∀ o,h.get? a=some o->h'.get? a=some o):IsRevT h' a l i:=let ⟨o,ho,r⟩:=x; ⟨o,e _ ho,r⟩
end
end L3
end
section
namespace L3
open PySem PySem.Spec PyProof.Rows L2
section
variable {X:Cx} {ca:Nat->Addr} {e:Expr} {me:ME} {p pos:Pos} {tg:Expr}
end
end L3
end
section
namespace SO
open PySem PyProof PyProof.Rows
noncomputable def gal':Bool->Keyed->Array Keyed->Nat->Nat->Nat->StateT SortSt Sem (Option Nat):=sortPriv% PySem.Builtin.gallop
noncomputable def look (lf:Bool) (ky:Keyed) (ar:Array Keyed) (bs i:Nat):StateT SortSt Sem (Option Bool):=do
 let z ← elem' ar (bs+i)
 if lf then lt' z ky else return (← lt' ky z).map (!·)
theorem Qiu (lf:Bool) (ky:Keyed) (ar:Array Keyed) (bs n hn:Nat):gal' lf ky ar bs n hn=(do
 let mut lst:=0
 let mut o:=1
 let mut lo:=0
 let mut hi:=0
 let some r ← look lf ky ar bs hn | return none
 if r then
  let mx:=n - hn
  for _ in [0:n] do
   if o≥mx then break
   let some m ← look lf ky ar bs (hn+o) | return none
   if !m then break
   lst:=o
   o:=2*o+1
  lo:=hn+lst+1
  hi:=hn+min o mx
 else
  let mx:=hn+1
  for _ in [0:n] do
   if o≥mx then break
   let some f ← look lf ky ar bs (hn - o) | return none
   if f then break
   lst:=o
   o:=2*o+1
  lo:=hn+1 - min o mx
  hi:=hn - lst
 for _ in [0:n] do
  if lo≥hi then break
  let m:=lo+(hi - lo) / 2
  let some y ← look lf ky ar bs m | return none
  if y then lo:=m+1 else hi:=m
 return some hi):=rfl
end SO
end
section
namespace SO
open PySem PyProof PyProof.Rows
section
variable {A:Around} {E:Value->Shared->Prop} {s:Shared}
theorem Qy {σ α:Type} {M:Model} {c:Prop} [Decidable c] {m1 m2:StateT σ Sem α} {Q:α->σ->Prop} {st:σ} (h:c) (k:wpS M A E s m1 Q st):wpS M A E s (if c then m1 else m2) Q st:=by rw [if_pos h]; exact k
theorem Qz {σ α:Type} {M:Model} {c:Prop} [Decidable c] {m1 m2:StateT σ Sem α} {Q:α->σ->Prop} {st:σ} (h:¬ c) (k:wpS M A E s m2 Q st):wpS M A E s (if c then m1 else m2) Q st:=by rw [if_neg h]; exact k
theorem QcN {σ α:Type} {M:Model} {c:Prop} [Decidable c] {m1 m2:StateT σ Sem α} {Q:α->σ->Prop} {st:σ} (k1:wpS M A E s m1 Q st) (k2:wpS M A E s m2 Q st):wpS M A E s (if c then m1 else m2) Q st:=by
 split
 ·exact k1
 ·exact k2
theorem Zo {x y:Nat} (h:¬ x=y):¬ (x == y)=true:=fun e=>h (beq_iff_eq.mp e)
theorem QZ {x y:Nat} (h:x=y):(x == y)=true:=beq_iff_eq.mpr h
theorem QaI {p:Prop} [Decidable p] (h:¬ p):¬ decide p=true:=fun e=>h (of_decide_eq_true e)
end
section
variable {prog:Program} {w:World} {A:Around} {E:Value->Shared->Prop} {s:Shared}
noncomputable abbrev KI (x:Keyed):Prop:=∃ n t,x.1=.int n t
noncomputable abbrev nk (x:Keyed):Int:=numOf x.1
theorem QfF {st:SortSt} {x y:Keyed} {Q:Option Bool->SortSt->Prop} (hk:kindOf st=oneType') (hx:KI x) (hy:KI y)
  (h:Q (some (decide (nk x<nk y))) st):wpS (model prog w) A E s (lt' x y) Q st:=by
 obtain⟨x1,x2⟩:=x
 obtain⟨y1,y2⟩:=y
 obtain⟨a,t,rfl⟩:=hx
 obtain⟨b,u,rfl⟩:=hy
 rw [lt'_eq]
 refine wpS_bind (wpS_get ?_)
 rw [hk,keyLt'_oneType]
 exact wpS_bind (wpS_lift (wpAny_attempt (oneLt_int ⟨rfl,wpS_pure h⟩)))
theorem QR {st:SortSt} {ar:Array Keyed} {i:Nat} {Q:Keyed->SortSt->Prop} (hi:i<ar.size) (h:Q ar[i] st) :
  wpS (model prog w) A E s (elem' ar i) Q st:=by
 rw [elem'_eq,getElem?_pos ar i hi]
 exact wpS_pure h
noncomputable def LK (lf:Bool) (kv v:Int):Bool:=if lf then decide (v<kv) else decide (v≤kv)
theorem Qiv {st:SortSt} {lf:Bool} {ky:Keyed} {ar:Array Keyed} {bs i:Nat} {Q:Option Bool->SortSt->Prop} (hk:kindOf st=oneType')
  (hky:KI ky) (ha:∀ x∈ar,KI x) (hi:bs+i<ar.size) (h:Q (some (LK lf (nk ky) (nk ar[bs+i]))) st) :
  wpS (model prog w) A E s (look lf ky ar bs i) Q st:=by
 unfold look
 refine wpS_bind (QR hi ?_)
 have hz:=ha _ (Array.getElem_mem hi)
 cases lf with
 | true =>
  rw [if_pos rfl]
  exact QfF hk hz hky (by unfold LK at h; rw [if_pos rfl] at h; exact h)
 | false =>
  rw [if_neg (by decide)]
  refine wpS_bind (QfF hk hky hz (wpS_pure ?_))
  have e:(some (decide (nk ky<nk ar[bs+i]))).map (!·)=some (decide (nk ar[bs+i]≤nk ky)):=by
   show some (!decide _)=_
   rw [← decide_not]
   exact congrArg some (decide_eq_decide.mpr Int.not_lt)
  rw [e]
  unfold LK at h
  rw [if_neg (by decide)] at h
  exact h
theorem Qj2 {st:SortSt} {lf:Bool} {ky:Keyed} {ar:Array Keyed} {bs n hn:Nat} {Q:Option Nat->SortSt->Prop} (hk:kindOf st=oneType')
  (hky:KI ky) (ha:∀ x∈ar,KI x) (hb:bs+n≤ar.size) (hh:hn<n)
  (p:Nat->Bool) (hp:∀ i (h:bs+i<ar.size),i<n->p i=LK lf (nk ky) (nk ar[bs+i]))
  (mono:∀ i j,i≤j->j<n->p j=true->p i=true)
  (h:∀ k,k≤n->(∀ i,i<k->p i=true)->(∀ i,k≤i->i<n->p i=false)->Q (some k) st) :
  wpS (model prog w) A E s (gal' lf ky ar bs n hn) Q st:=by
 have ask:∀ {i:Nat} {R:Option Bool->SortSt->Prop},i<n->R (some (p i)) st->wpS (model prog w) A E s (look lf ky ar bs i) R st:=by
  intro i R hi hR
  exact Qiv hk hky ha (by(clear hk hh; (first | lia | omega))) (by rw [← hp i (by(clear hk hh; (first | lia | omega))) hi]; exact hR)
 have bin:∀ {lo hi:Nat} {R:Option (Option Nat)×Nat×Nat->SortSt->Prop},lo≤hi->hi≤n->(∀ i,i<lo->p i=true)->(∀ i,hi≤i->i<n->p i=false) ->
   (∀ l k,k≤n->(∀ i,i<k->p i=true)->(∀ i,k≤i->i<n->p i=false)->R (none,l,k) st) ->
   wpS (model prog w) A E s (forIn [0:n] ((none,lo,hi):Option (Option Nat)×Nat×Nat) fun _ c=>do
    if c.2.1≥c.2.2 then pure (ForInStep.done (none,c.2.1,c.2.2)) else do
     let z ← look lf ky ar bs (c.2.1+(c.2.2 - c.2.1) / 2)
     match z with
     | some y=>if y=true then pure (ForInStep.yield (none,c.2.1+(c.2.2 - c.2.1) / 2+1,c.2.2)) else pure (ForInStep.yield (none,c.2.1,c.2.1+(c.2.2 - c.2.1) / 2))
     | _=>pure (ForInStep.done (some none,c.2.1,c.2.2))) R st:=by
  intro lo hi R h1 h2 h3 h4 hR
  refine wpS_forRange (I:=fun x c st'=>st'=st∧∃ l r,c=(none,l,r)∧l≤r∧r≤n∧r - l≤n - x∧(∀ i,i<l->p i=true)∧(∀ i,r≤i->i<n->p i=false)) ?step ?fin ⟨rfl,lo,hi,rfl,h1,h2,by(clear hk hb hh; (first | lia | omega)),h3,h4⟩
  case fin =>
   rintro c st' ⟨rfl,l,r,rfl,a1,a2,a3,a4,a5⟩
   have e:l=r:=by(clear hb hh h1 h2 hk a2; (first | lia | omega))
   subst e
   exact hR l l a2 a4 a5
  case step =>
   rintro x c st' _ hx ⟨rfl,l,r,rfl,a1,a2,a3,a4,a5⟩
   dsimp only
   by_cases hge:l≥r
   ·refine Qy hge ?_
    have e:l=r:=by(clear hb hh h1 h2 hx hk a2 a3; (first | lia | omega))
    subst e
    exact wpS_pure (hR l l a2 a4 a5)
   ·refine Qz hge ?_
    refine wpS_bind (ask (by(clear hb hh h1 h2 hx hk a1 a3; (first | lia | omega))) ?_)
    dsimp only
    cases hm:p (l+(r - l) / 2) with
    | true =>
     refine Qy rfl ?_
     exact wpS_pure ⟨rfl,_,r,rfl,by(clear hb hh h1 h2 hx hk a1 a2 a3 hm; (first | lia | omega)),a2,by(clear hb hh h1 h2 hk a1 a2 hm; (first | lia | omega)),fun i hi=>mono i _ (by(clear hb hh h1 h2 hx hk a1 a2 a3 hge hm; (first | lia | omega))) (by(clear hb hh h1 h2 hx hk a1 a3 hm hi; (first | lia | omega))) hm,a5⟩
    | false =>
     refine Qz (by decide) ?_
     refine wpS_pure ⟨rfl,l,_,rfl,by(clear hb hh h1 h2 hx hk a1 a2 a3 hge hm; (first | lia | omega)),by(clear hb hh h1 h2 hx hk a1 a3 hm; (first | lia | omega)),by(clear hb hh h1 h2 hk a1 a2 hm; (first | lia | omega)),a4,fun i q1 q2=>?_⟩
     cases hi:p i with
     | false=>rfl
     | true=>rw [mono _ i q1 q2 hi] at hm; cases hm
 rw [Qiu]
 refine wpS_bind (ask hh ?_)
 dsimp only
 cases hq:p hn with
 | true =>
  refine Qy rfl ?_
  refine wpS_bind (wpS_forRange (I:=fun x c st'=>st'=st∧∃ l o,c=(none,l,o)∧l+1≤o∧x+1≤o∧hn+l<n∧p (hn+l)=true) ?step ?fin ⟨rfl,0,1,rfl,by(clear hk hb hh hq; (first | lia | omega)),by(clear hk hb hh hq; (first | lia | omega)),by(clear hk hb hq; (first | lia | omega)),hq⟩)
  case fin =>
   rintro c st' ⟨rfl,l,o,rfl,a1,a2,a3,a4⟩
   dsimp only
   refine wpS_bind (bin (by(clear hb hq hk a2 a4; (first | lia | omega))) (by(clear hb hq hk a1 a2 a3 a4; (first | lia | omega))) (fun i hi=>mono i _ (by(clear hb hh hq hk a1 a2 a3 a4; (first | lia | omega))) a3 a4) (fun i q1 q2=>absurd q2 (by(clear hb hq hk a1 a3 a4; (first | lia | omega)))) fun l' k b1 b2 b3=>wpS_pure (h k b1 b2 b3))
  case step =>
   rintro x c st' _ hx ⟨rfl,l,o,rfl,a1,a2,a3,a4⟩
   dsimp only
   by_cases hge:o≥n - hn
   ·refine Qy hge ?_
    refine wpS_pure ?_
    dsimp only
    exact(wpS_bind (bin (by(clear hb hq hx hk a2 a4; (first | lia | omega))) (by(clear hb hq hx hk a1 a2 a3 a4; (first | lia | omega))) (fun i hi=>mono i _ (by(clear hb hh hq hx hk a1 a2 a3 a4 hge; (first | lia | omega))) a3 a4) (fun i q1 q2=>absurd q2 (by(clear hb hq hx hk a1 a2 a3 a4; (first | lia | omega)))) fun l' k b1 b2 b3=>wpS_pure (h k b1 b2 b3)))
   ·refine Qz hge ?_
    refine wpS_bind (ask (by(clear hb hq hx hk a1 a2 a3 a4; (first | lia | omega))) ?_)
    dsimp only
    cases hm:p (hn+o) with
    | true =>
     refine Qz (by decide) ?_
     exact wpS_pure ⟨rfl,o,_,rfl,by(clear hb hh hq hx hk a1 a2 a3 a4 hge hm; (first | lia | omega)),by(clear hb hh hq hx hk a1 a3 a4 hge hm; (first | lia | omega)),by(clear hb hq hx hk a1 a2 a3 a4 hm; (first | lia | omega)),hm⟩
    | false =>
     refine Qy (by decide) ?_
     refine wpS_pure ?_
     dsimp only
     refine(wpS_bind (bin (by(clear hb hh hq hx hk a2 a3 a4 hm; (first | lia | omega))) (by(clear hb hq hx hk a1 a2 a3 a4 hm; (first | lia | omega))) (fun i hi=>mono i _ (by(clear hb hh hq hx hk a1 a2 a3 a4 hge hm; (first | lia | omega))) a3 a4) (fun i q1 q2=>?_) fun l' k b1 b2 b3=>wpS_pure (h k b1 b2 b3)))
     cases hi:p i with
     | false=>rfl
     | true=>rw [mono (hn+o) i (by(clear hb hh hq hx hk a1 a2 a3 a4 hm q2 hi; (first | lia | omega))) q2 hi] at hm; cases hm
 | false =>
  rw [if_neg (by decide)]
  have lowF:∀ {l:Nat},l≤hn->p (hn - l)=false->∀ i,hn - l≤i->i<n->p i=false:=by
   intro l _ hl i q1 q2
   cases hi:p i with
   | false=>rfl
   | true=>rw [mono (hn - l) i q1 q2 hi] at hl; cases hl
  refine wpS_bind (wpS_forRange (I:=fun x c st'=>st'=st∧∃ l o,c=(none,l,o)∧l+1≤o∧x+1≤o∧l≤hn∧p (hn - l)=false) ?step ?fin ⟨rfl,0,1,rfl,by(clear hk hb hh hq; (first | lia | omega)),by(clear hk hb hh hq; (first | lia | omega)),by(clear hk hb hh hq; (first | lia | omega)),hq⟩)
  case fin =>
   rintro c st' ⟨rfl,l,o,rfl,a1,a2,a3,a4⟩
   dsimp only
   refine wpS_bind (bin (by(clear hb hh hq hk a2 a4; (first | lia | omega))) (by(clear hb hq hk a1 a2 a4; (first | lia | omega))) (fun i hi=>absurd hi (by(clear hb hq hk a1 a3 a4; (first | lia | omega)))) (lowF a3 a4) fun l' k b1 b2 b3=>wpS_pure (h k b1 b2 b3))
  case step =>
   rintro x c st' _ hx ⟨rfl,l,o,rfl,a1,a2,a3,a4⟩
   dsimp only
   by_cases hge:o≥hn+1
   ·refine Qy hge ?_
    refine wpS_pure ?_
    dsimp only
    exact(wpS_bind (bin (by(clear hb hh hq hx hk a2 a4; (first | lia | omega))) (by(clear hb hq hx hk a1 a2 a4 hge; (first | lia | omega))) (fun i hi=>absurd hi (by(clear hb hh hq hx hk a1 a2 a3 a4; (first | lia | omega)))) (lowF a3 a4) fun l' k b1 b2 b3=>wpS_pure (h k b1 b2 b3)))
   ·refine Qz hge ?_
    refine wpS_bind (ask (by(clear hb hq hx hk a1 a3 a4; (first | lia | omega))) ?_)
    dsimp only
    cases hm:p (hn - o) with
    | true =>
     refine Qy rfl ?_
     refine wpS_pure ?_
     dsimp only
     exact(wpS_bind (bin (by(clear hb hh hq hx hk a2 a4 hm; (first | lia | omega))) (by(clear hb hq hx hk a1 a2 a4 hge hm; (first | lia | omega))) (fun i hi=>mono i (hn - o) (by(clear hb hh hq hx hk a1 a2 a3 a4 hm; (first | lia | omega))) (by(clear hb hq hx hk a1 a3 a4 hm hi; (first | lia | omega))) hm) (lowF a3 a4) fun l' k b1 b2 b3=>wpS_pure (h k b1 b2 b3)))
    | false =>
     refine Qz (by decide) ?_
     exact wpS_pure ⟨rfl,o,_,rfl,by(clear hb hh hq hx hk a1 a2 a3 a4 hge hm; (first | lia | omega)),by(clear hb hh hq hx hk a1 a3 a4 hge hm; (first | lia | omega)),by(clear hb hh hq hx hk a1 a2 a3 a4 hm; (first | lia | omega)),hm⟩
end
end SO
end
section
namespace SO
open PySem PyProof PyProof.Rows
noncomputable def mlo':Array Keyed->Array Keyed->StateT SortSt Sem (Array Keyed):=sortPriv% PySem.Builtin.mergeLo
noncomputable def mhi':Array Keyed->Array Keyed->StateT SortSt Sem (Array Keyed):=sortPriv% PySem.Builtin.mergeHi
noncomputable def setG (g:Nat):StateT SortSt Sem Unit:=modify fun z=>SortSt.mk' (kindOf z) (arrOf z) (pendingOf z) g (failedOf z)
end SO
end
section
namespace SO
open PySem PyProof PyProof.Rows
noncomputable abbrev Srt (l:List Keyed):Prop:=l.Pairwise fun x y=>nk x≤nk y
structure JL (o p q t:List Keyed):Prop where
 perm:(o++(p++q)).Perm t
 sp:Srt (o++p)
 sq:Srt (o++q)
theorem JL.swap {o p q t:List Keyed} (h:JL o p q t):JL o q p t :=
 ⟨(List.Perm.append_left o List.perm_append_comm).trans h.perm,h.sq,h.sp⟩
theorem JL.take {o x p q t:List Keyed} (h:JL o (x++p) q t) (c:∀ u∈x,∀ v∈q,nk u≤nk v):JL (o++x) p q t:=by
 refine⟨by rw [List.append_assoc,← List.append_assoc x]; exact h.perm,by rw [List.append_assoc]; exact h.sp,?_⟩
 have h1:=h.sp
 rw [← List.append_assoc] at h1
 have h2:=List.pairwise_append.mp h.sq
 refine List.pairwise_append.mpr ⟨(List.pairwise_append.mp h1).1,h2.2.1,fun u hu v hv=>?_⟩
 rcases List.mem_append.mp hu with hu | hu
 ·exact h2.2.2 u hu v hv
 ·exact c u hu v hv
noncomputable abbrev Mrg (out a b:Array Keyed):Prop:=out.toList.Perm (a.toList++b.toList)∧Srt out.toList
theorem QbS (a:Array Keyed) (i:Nat):(a.extract i a.size).toList=a.toList.drop i:=by
 rw [Array.toList_extract,List.extract_eq_take_drop,List.take_of_length_le]
 simp
theorem Qhy (a:Array Keyed) (i k:Nat):(a.extract i (i+k)).toList=(a.toList.drop i).take k:=by
 rw [Array.toList_extract,List.extract_eq_take_drop,Nat.add_sub_cancel_left]
theorem Yb {a:Array Keyed} {i:Nat} (h:i<a.size):nk a[i]=K a i:=(K_eq h).symm
theorem Qan {a:Array Keyed} {i:Nat} {y:Keyed} (h:y∈a.toList.drop i):∃ m,i≤m∧m<a.size∧nk y=K a m:=by
 obtain⟨m,hm,e⟩:=List.getElem_of_mem h
 rw [List.length_drop,Array.length_toList] at hm
 rw [List.getElem_drop,Array.getElem_toList] at e
 exact⟨i+m,by(clear hm e; (first | lia | omega)),by(clear e; (first | lia | omega)),by rw [← e,Yb]⟩
theorem Y3 {a:Array Keyed} {i k:Nat} {y:Keyed} (h:y∈(a.toList.drop i).take k):∃ m,i≤m∧m<i+k∧m<a.size∧nk y=K a m:=by
 obtain⟨m,hm,e⟩:=List.getElem_of_mem h
 rw [List.length_take,List.length_drop,Array.length_toList] at hm
 rw [List.getElem_take,List.getElem_drop,Array.getElem_toList] at e
 exact⟨i+m,by(clear hm e; (first | lia | omega)),by(clear e; (first | lia | omega)),by(clear e; (first | lia | omega)),by rw [← e,Yb]⟩
theorem QfG {a:Array Keyed} {i:Nat} (h:i<a.size):a.toList.drop i=a[i]::a.toList.drop (i+1):=by
 rw [List.drop_eq_getElem_cons (by rw [Array.length_toList]; exact h),Array.getElem_toList]
structure Mid (a b r:Array Keyed) (i j:Nat):Prop where
 jl:JL r.toList (a.toList.drop i) (b.toList.drop j) (a.toList++b.toList)
 hi:i≤a.size
 hj:j≤b.size
theorem Mid.size {a b r:Array Keyed} {i j:Nat} (M:Mid a b r i j):r.size+(a.size - i)+(b.size - j)=a.size+b.size:=by
 have:=M.jl.perm.length_eq
 simp only [List.length_append,List.length_drop,Array.length_toList] at this
 (first | lia | omega)
theorem Mid.pushA {a b r:Array Keyed} {i j:Nat} (M:Mid a b r i j) (h:i<a.size) (c:∀ m,j≤m->m<b.size->K a i≤K b m):Mid a b (r.push a[i]) (i+1) j:=by
 refine⟨?_,h,M.hj⟩
 rw [Array.toList_push]
 refine JL.take (by have:=M.jl; rw [QfG h] at this; exact this) fun u hu v hv=>?_
 obtain⟨m,h1,h2,e⟩:=Qan hv
 rw [List.mem_singleton.mp hu,Yb h,e]
 exact c m h1 h2
theorem Mid.pushB {a b r:Array Keyed} {i j:Nat} (M:Mid a b r i j) (h:j<b.size) (c:∀ m,i≤m->m<a.size->K b j≤K a m):Mid a b (r.push b[j]) i (j+1):=by
 refine⟨?_,M.hi,h⟩
 rw [Array.toList_push]
 refine(JL.take (by have:=M.jl.swap; rw [QfG h] at this; exact this) fun u hu v hv=>?_).swap
 obtain⟨m,h1,h2,e⟩:=Qan hv
 rw [List.mem_singleton.mp hu,Yb h,e]
 exact c m h1 h2
theorem Mid.manyA {a b r:Array Keyed} {i j k:Nat} (M:Mid a b r i j) (h:i+k≤a.size) (c:∀ m n,i≤m->m<i+k->j≤n->n<b.size->K a m≤K b n):Mid a b (r++a.extract i (i+k)) (i+k) j:=by
 refine⟨?_,h,M.hj⟩
 rw [Array.toList_append,Qhy]
 refine JL.take (by rw [← List.drop_drop,List.take_append_drop]; exact M.jl) fun u hu v hv=>?_
 obtain⟨m,h1,h2,h3,e⟩:=Y3 hu
 obtain⟨n,h4,h5,e2⟩:=Qan hv
 rw [e,e2]
 exact c m n h1 h2 h4 h5
theorem Mid.manyB {a b r:Array Keyed} {i j k:Nat} (M:Mid a b r i j) (h:j+k≤b.size) (c:∀ m n,j≤m->m<j+k->i≤n->n<a.size->K b m≤K a n):Mid a b (r++b.extract j (j+k)) i (j+k):=by
 refine⟨?_,M.hi,h⟩
 rw [Array.toList_append,Qhy]
 refine(JL.take (by rw [← List.drop_drop,List.take_append_drop]; exact M.jl.swap) fun u hu v hv=>?_).swap
 obtain⟨m,h1,h2,h3,e⟩:=Y3 hu
 obtain⟨n,h4,h5,e2⟩:=Qan hv
 rw [e,e2]
 exact c m n h1 h2 h4 h5
theorem Mid.endB {a b r:Array Keyed} {i j:Nat} (M:Mid a b r i j) (h:j=b.size):Mrg (r++a.extract i a.size++b.extract j b.size) a b:=by
 have e:b.toList.drop j=[]:=List.drop_eq_nil_of_le (by rw [Array.length_toList]; (first | lia | omega))
 have p:=M.jl.perm
 have q:=M.jl.sp
 rw [e,List.append_nil] at p
 rw [Mrg,Array.toList_append,Array.toList_append,QbS,QbS,e,List.append_nil]
 exact⟨p,q⟩
theorem Mid.endA {a b r:Array Keyed} {i j:Nat} (M:Mid a b r i j) (h:i=a.size):Mrg (r++a.extract i a.size++b.extract j b.size) a b:=by
 have e:a.toList.drop i=[]:=List.drop_eq_nil_of_le (by rw [Array.length_toList]; (first | lia | omega))
 have p:=M.jl.perm
 have q:=M.jl.sq
 rw [e,List.nil_append] at p
 rw [Mrg,Array.toList_append,Array.toList_append,QbS,QbS,e,List.append_nil]
 exact⟨p,q⟩
theorem Mid.lastA {a b r:Array Keyed} {i j:Nat} (M:Mid a b r i j) (h:i+1=a.size) (c:∀ m,m<b.size->K b m≤K a (a.size - 1)):Mrg (r++b.extract j b.size++a.extract i a.size) a b:=by
 have N:=M.manyB (k:=b.size - j) (by have:=M.hj; (clear h; (first | lia | omega))) fun m n h1 h2 h3 h4=>by
  rw [show n=a.size - 1 by(clear h1 h2; (first | lia | omega))]
  exact c m (by have:=M.hj; (clear h h1 h3 h4; (first | lia | omega)))
 have e:j+(b.size - j)=b.size:=by have:=M.hj; (clear h; (first | lia | omega))
 rw [e] at N
 have:=N.endB rfl
 rw [show b.extract b.size b.size = #[] by simp,Array.append_empty] at this
 exact this
end SO
end
section
namespace SO
open PySem PyProof PyProof.Rows
noncomputable abbrev StO:=Option (Array Keyed)×Array Keyed×Nat×Nat×Nat×Nat
noncomputable abbrev StR:=Option (Array Keyed)×Array Keyed×Nat×Nat×Nat
noncomputable abbrev StL:=Option (Array Keyed)×Array Keyed×Nat×Nat×Nat×Nat×Nat
noncomputable def Qiw (a b:Array Keyed) (g:Nat) (r:Array Keyed) (i j ac bc:Nat):StateT SortSt Sem (ForInStep StO):=do
 let z ← lt' (← elem' b j) (← elem' a i)
 match z with
 | some y =>
  if y=true then do
   let r:=r.push (← elem' b j)
   if (j+1 == b.size)=true then pure (ForInStep.done (some (r++a.extract i a.size++b.extract (j+1) b.size),r,i,j+1,0,bc+1))
   else if bc+1≥g then pure (ForInStep.done (none,r,i,j+1,0,bc+1)) else pure (ForInStep.yield (none,r,i,j+1,0,bc+1))
  else do
   let r:=r.push (← elem' a i)
   if (i+1+1 == a.size)=true then pure (ForInStep.done (some (r++b.extract j b.size++a.extract (i+1) a.size),r,i+1,j,ac+1,0))
   else if ac+1≥g then pure (ForInStep.done (none,r,i+1,j,ac+1,0)) else pure (ForInStep.yield (none,r,i+1,j,ac+1,0))
 | _=>pure (ForInStep.done (some (r++a.extract i a.size++b.extract j b.size),r,i,j,ac,bc))
noncomputable def QbT (a b:Array Keyed) (g k k2 i j:Nat) (r:Array Keyed):StateT SortSt Sem (ForInStep StL):=do
 let r:=r.push (← elem' a i)
 if (i+1+1 == a.size)=true then pure (ForInStep.done (some (r++b.extract j b.size++a.extract (i+1) a.size),r,i+1,j,g,k,k2))
 else if (decide (k<7) && decide (k2<7))=true then pure (ForInStep.done (none,r,i+1,j,g,k,k2))
 else pure (ForInStep.yield (none,r,i+1,j,g,k,k2))
noncomputable def QbU (a b:Array Keyed) (g k bc i j:Nat) (r:Array Keyed):StateT SortSt Sem (ForInStep StL):=do
 let r:=r.push (← elem' b j)
 if (j+1 == b.size)=true then pure (ForInStep.done (some (r++a.extract i a.size++b.extract (j+1) b.size),r,i,j+1,g,k,bc)) else do
  let z ← gal' true (← elem' a i) b (j+1) (b.size - (j+1)) 0
  match z with
  | some y =>
   if y > 0 then
    if (j+1+y == b.size)=true then pure (ForInStep.done (some (r++b.extract (j+1) (j+1+y)++a.extract i a.size++b.extract (j+1+y) b.size),r++b.extract (j+1) (j+1+y),i,j+1+y,g,k,y))
    else QbT a b g k y i (j+1+y) (r++b.extract (j+1) (j+1+y))
   else QbT a b g k y i (j+1) r
  | _=>pure (ForInStep.done (some (r++a.extract i a.size++b.extract (j+1) b.size),r,i,j+1,g,k,bc))
noncomputable def QcO (a b r:Array Keyed) (i j ac bc g:Nat):StateT SortSt Sem (ForInStep StL):=do
 setG g
 let z ← gal' false (← elem' b j) a i (a.size - i) 0
 match z with
 | some y =>
  if y > 0 then
   if (i+y+1 == a.size)=true then pure (ForInStep.done (some (r++a.extract i (i+y)++b.extract j b.size++a.extract (i+y) a.size),r++a.extract i (i+y),i+y,j,g,y,bc))
   else if (i+y == a.size)=true then pure (ForInStep.done (some (r++a.extract i (i+y)++a.extract (i+y) a.size++b.extract j b.size),r++a.extract i (i+y),i+y,j,g,y,bc))
   else QbU a b g y bc (i+y) j (r++a.extract i (i+y))
  else QbU a b g y bc i j r
 | _=>pure (ForInStep.done (some (r++a.extract i a.size++b.extract j b.size),r,i,j,g,ac,bc))
noncomputable def Qde (a b r:Array Keyed) (i j ac bc g:Nat):StateT SortSt Sem (ForInStep StR):=do
 liftM (rule "list.sort.gallop")
 let c ← forIn [0:a.size+b.size] ((none,r,i,j,g+1,ac,bc):StL) fun _ c =>
  if c.snd.snd.snd.snd.fst > 1 then QcO a b c.snd.fst c.snd.snd.fst c.snd.snd.snd.fst c.snd.snd.snd.snd.snd.fst c.snd.snd.snd.snd.snd.snd (c.snd.snd.snd.snd.fst - 1)
  else QcO a b c.snd.fst c.snd.snd.fst c.snd.snd.snd.fst c.snd.snd.snd.snd.snd.fst c.snd.snd.snd.snd.snd.snd c.snd.snd.snd.snd.fst
 match c.fst with
 | some o=>pure (ForInStep.done (some o,c.snd.fst,c.snd.snd.fst,c.snd.snd.snd.fst,c.snd.snd.snd.snd.fst))
 | none=>do
  setG (c.snd.snd.snd.snd.fst+1)
  pure (ForInStep.yield (none,c.snd.fst,c.snd.snd.fst,c.snd.snd.snd.fst,c.snd.snd.snd.snd.fst+1))
noncomputable def Qdf (a b r:Array Keyed) (i j g:Nat):StateT SortSt Sem (ForInStep StR):=do
 let c ← forIn [0:a.size+b.size] ((none,r,i,j,0,0):StO) fun _ c=>Qiw a b g c.snd.fst c.snd.snd.fst c.snd.snd.snd.fst c.snd.snd.snd.snd.fst c.snd.snd.snd.snd.snd
 match c.fst with
 | some o=>pure (ForInStep.done (some o,c.snd.fst,c.snd.snd.fst,c.snd.snd.snd.fst,g))
 | none=>Qde a b c.snd.fst c.snd.snd.fst c.snd.snd.snd.fst c.snd.snd.snd.snd.fst c.snd.snd.snd.snd.snd g
noncomputable def Qj3 (a b r:Array Keyed) (g:Nat):StateT SortSt Sem (Array Keyed):=do
 let c ← forIn [0:a.size+b.size] ((none,r,0,1,g):StR) fun _ c=>Qdf a b c.snd.fst c.snd.snd.fst c.snd.snd.snd.fst c.snd.snd.snd.snd
 match c.fst with
 | some o=>pure o
 | none=>liftM (unsupported "internal:list.sort.merge-bound")
theorem Qj4 (a b:Array Keyed):mlo' a b=(do
 liftM (rule "list.sort.merge-lo")
 let x ← elem' b 0
 if (1 == b.size)=true then pure (#[x]++a.extract 0 a.size++b.extract 1 b.size)
 else if (0+1 == a.size)=true then pure (#[x]++b.extract 1 b.size++a.extract 0 a.size)
 else do
  let t ← get
  Qj3 a b #[x] (gallopOf t)):=by
 kernel_rfl
end SO
end
section
namespace SO
open PySem PyProof PyProof.Rows
section
variable {prog:Program} {w:World} {A:Around} {E:Value->Shared->Prop} {s:Shared}
noncomputable def Alike (st st':SortSt):Prop:=kindOf st'=kindOf st∧arrOf st'=arrOf st∧pendingOf st'=pendingOf st∧failedOf st'=failedOf st
theorem Alike.refl (st:SortSt):Alike st st:=⟨rfl,rfl,rfl,rfl⟩
theorem QdS {x:Array Keyed} (sx:SortedTo x x.size):Srt x.toList:=by
 refine List.pairwise_iff_getElem.mpr fun i j hi hj hij=>?_
 rw [Array.length_toList] at hi hj
 rw [Array.getElem_toList,Array.getElem_toList,Yb hi,Yb hj]
 exact sx i j (Nat.le_of_lt hij) hj
theorem QbV {st:SortSt} {g:Nat} {Q:Unit->SortSt->Prop} (h:∀ st',(∀ z,Alike z st->Alike z st')->Q () st'):wpS (model prog w) A E s (setG g) Q st:=by
 unfold setG
 exact wpS_modify (h _ fun z hz=>hz)
theorem LK_f {kv v:Int}:LK false kv v=decide (v≤kv):=rfl
theorem LK_t {kv v:Int}:LK true kv v=decide (v<kv):=rfl
theorem JP {st:SortSt} {lf:Bool} {ky:Keyed} {ar:Array Keyed} {bs n hn:Nat} {Q:Option Nat->SortSt->Prop} (hk:kindOf st=oneType')
  (hky:KI ky) (ha:∀ x∈ar,KI x) (hb:bs+n≤ar.size) (hh:hn<n) (so:∀ i j,i≤j->j<n->K ar (bs+i)≤K ar (bs+j))
  (h:∀ k,k≤n->(∀ i,i<k->LK lf (nk ky) (K ar (bs+i))=true)->(∀ i,k≤i->i<n->LK lf (nk ky) (K ar (bs+i))=false)->Q (some k) st) :
  wpS (model prog w) A E s (gal' lf ky ar bs n hn) Q st:=by
 refine Qj2 hk hky ha hb hh (fun i=>LK lf (nk ky) (K ar (bs+i))) (fun i hi _=>by rw [Yb hi]) (fun i j hij hj hp=>?_) h
 have:=so i j hij hj
 cases lf with
 | true=>rw [LK_t] at hp ⊢; exact decide_eq_true (Int.lt_of_le_of_lt this (of_decide_eq_true hp))
 | false=>rw [LK_f] at hp ⊢; exact decide_eq_true (Int.le_trans this (of_decide_eq_true hp))
structure Two (a b:Array Keyed):Prop where
 ka:∀ x∈a,KI x
 kb:∀ x∈b,KI x
 sa:SortedTo a a.size
 sb:SortedTo b b.size
 c0:K b 0≤K a 0
 cl:∀ m,m<b.size->K b m≤K a (a.size - 1)
structure Am (a b r:Array Keyed) (i j n:Nat):Prop where
 mid:Mid a b r i j
 hi:i+1<a.size
 hj:j<b.size
 hn:n≤r.size
noncomputable def QkY (st:SortSt) (a b:Array Keyed) (n N:Nat):ForInStep StO->SortSt->Prop
 | .done c,st'=>st'=st∧((∃ out r i j ac bc,c=(some out,r,i,j,ac,bc)∧Mrg out a b)∨∃ r i j ac bc,c=(none,r,i,j,ac,bc)∧Am a b r i j n)
 | .yield c,st'=>st'=st∧∃ r i j ac bc,c=(none,r,i,j,ac,bc)∧Am a b r i j N
noncomputable def Qix (st:SortSt) (a b:Array Keyed) (n N:Nat):ForInStep StL->SortSt->Prop
 | .done c,st'=>Alike st st'∧((∃ out r i j g ac bc,c=(some out,r,i,j,g,ac,bc)∧Mrg out a b)∨∃ r i j g ac bc,c=(none,r,i,j,g,ac,bc)∧Am a b r i j n)
 | .yield c,st'=>Alike st st'∧∃ r i j g ac bc,c=(none,r,i,j,g,ac,bc)∧Am a b r i j N
noncomputable def Qiy (st:SortSt) (a b:Array Keyed) (N:Nat):ForInStep StR->SortSt->Prop
 | .done c,st'=>Alike st st'∧∃ out r i j g,c=(some out,r,i,j,g)∧Mrg out a b
 | .yield c,st'=>Alike st st'∧∃ r i j g,c=(none,r,i,j,g)∧Am a b r i j N
variable {st st2:SortSt} {a b r:Array Keyed} {i j n N g:Nat}
theorem Am.no (M:Am a b r i j n) (h:a.size+b.size≤n):False:=by
 have:=M.mid.size
 have:=M.hi
 have:=M.hn
 (first | lia | omega)
theorem Am.pushA (M:Am a b r i j n) (h:i<a.size) (c:∀ m,j≤m->m<b.size->K a i≤K b m) (e:¬ i+1+1=a.size) (hN:N≤n+1):Am a b (r.push a[i]) (i+1) j N :=
 ⟨M.mid.pushA h c,by have:=M.hi; (first | lia | omega),M.hj,by rw [Array.size_push]; have:=M.hn; (first | lia | omega)⟩
theorem Am.pushB (M:Am a b r i j n) (c:∀ m,i≤m->m<a.size->K b j≤K a m) (e:¬ j+1=b.size) (hN:N≤n+1):Am a b (r.push (b[j]'M.hj)) i (j+1) N :=
 ⟨M.mid.pushB M.hj c,M.hi,by have:=M.hj; (first | lia | omega),by rw [Array.size_push]; have:=M.hn; (first | lia | omega)⟩
theorem QgM {ac bc:Nat} (T:Two a b) (hk:kindOf st=oneType') (M:Am a b r i j n) (hN:N≤n+1) :
  wpS (model prog w) A E s (Qiw a b g r i j ac bc) (QkY st a b N N) st:=by
 have hi:=Nat.lt_of_succ_lt M.hi
 have hj:=M.hj
 unfold Qiw
 refine wpS_bind (QR hj (wpS_bind (QR hi (wpS_bind (QfF hk (T.kb _ (Array.getElem_mem hj)) (T.ka _ (Array.getElem_mem hi)) ?_)))))
 rw [Yb hj,Yb hi]
 by_cases hw:K b j<K a i
 ·refine Qy (decide_eq_true hw) (wpS_bind (QR hj ?_))
  have c:∀ m,i≤m->m<a.size->K b j≤K a m:=fun m h1 h2=>Int.le_trans (Int.le_of_lt hw) (T.sa i m h1 h2)
  by_cases e:j+1=b.size
  ·exact Qy (QZ e) (wpS_pure ⟨rfl,.inl ⟨_,_,_,_,_,_,rfl,(M.mid.pushB hj c).endB e⟩⟩)
  have M':=M.pushB c e hN
  exact Qz (Zo e) (QcN (wpS_pure ⟨rfl,.inr ⟨_,_,_,_,_,rfl,M'⟩⟩) (wpS_pure ⟨rfl,_,_,_,_,_,rfl,M'⟩))
 ·refine Qz (QaI hw) (wpS_bind (QR hi ?_))
  have c:∀ m,j≤m->m<b.size->K a i≤K b m:=fun m h1 h2=>Int.le_trans (Int.not_lt.mp hw) (T.sb j m h1 h2)
  by_cases e:i+1+1=a.size
  ·exact Qy (QZ e) (wpS_pure ⟨rfl,.inl ⟨_,_,_,_,_,_,rfl,(M.mid.pushA hi c).lastA e T.cl⟩⟩)
  have M':=M.pushA hi c e hN
  exact Qz (Zo e) (QcN (wpS_pure ⟨rfl,.inr ⟨_,_,_,_,_,rfl,M'⟩⟩) (wpS_pure ⟨rfl,_,_,_,_,_,rfl,M'⟩))
theorem Qbn {k k2:Nat} (T:Two a b) (al:Alike st st2) (M:Am a b r i j n) (c:∀ m,j≤m->m<b.size->K a i≤K b m) (hN:N≤n+1) :
  wpS (model prog w) A E s (QbT a b g k k2 i j r) (Qix st a b N N) st2:=by
 have hi:=Nat.lt_of_succ_lt M.hi
 unfold QbT
 refine wpS_bind (QR hi ?_)
 by_cases e:i+1+1=a.size
 ·exact Qy (QZ e) (wpS_pure ⟨al,.inl ⟨_,_,_,_,_,_,_,rfl,(M.mid.pushA hi c).lastA e T.cl⟩⟩)
 have M':=M.pushA hi c e hN
 exact Qz (Zo e) (QcN (wpS_pure ⟨al,.inr ⟨_,_,_,_,_,_,rfl,M'⟩⟩) (wpS_pure ⟨al,_,_,_,_,_,_,rfl,M'⟩))
theorem QdT {P:Nat->Prop} {x m:Nat} (h:P (x+(m - x))) (l:x≤m):P m:=by
 rwa [Nat.add_sub_cancel' l] at h
theorem Qbo {k bc:Nat} (T:Two a b) (al:Alike st st2) (k2:kindOf st2=oneType') (M:Am a b r i j n) (c:∀ m,i≤m->m<a.size->K b j≤K a m) (hN:N≤n+1) :
  wpS (model prog w) A E s (QbU a b g k bc i j r) (Qix st a b N N) st2:=by
 have hi:=Nat.lt_of_succ_lt M.hi
 have hj:=M.hj
 unfold QbU
 refine wpS_bind (QR hj ?_)
 by_cases e:j+1=b.size
 ·exact Qy (QZ e) (wpS_pure ⟨al,.inl ⟨_,_,_,_,_,_,_,rfl,(M.mid.pushB hj c).endB e⟩⟩)
 have M2:Am a b (r.push b[j]) i (j+1) n:=M.pushB c e (Nat.le_succ n)
 have hj2:=M2.hj
 refine Qz (Zo e) (wpS_bind (QR hi (wpS_bind ?_)))
 refine JP k2 (T.ka _ (Array.getElem_mem hi)) T.kb (Nat.le_of_eq (Nat.add_sub_cancel' (Nat.le_of_lt hj2))) (Nat.sub_pos_of_lt hj2) (fun x y h1 h2=>T.sb _ _ (Nat.add_le_add_left h1 _) (Nat.add_lt_of_lt_sub' h2)) fun y hy pk qk=>?_
 rw [Yb hi] at pk qk
 have R:∀ m,j+1≤m->m<j+1+y->K b m≤K a i:=fun m h1 h2=>Int.le_of_lt (of_decide_eq_true (QdT (P:=fun m=>decide (K b m<K a i)=true) (pk (m - (j+1)) (by(first | lia | omega))) h1))
 have R':∀ m,j+1+y≤m->m<b.size->K a i≤K b m:=fun m h1 h2=>Int.not_lt.mp (of_decide_eq_false (QdT (P:=fun m=>decide (K b m<K a i)=false) (qk (m - (j+1)) (Nat.le_sub_of_add_le' h1) (Nat.sub_lt_sub_right (Nat.le_of_add_right_le h1) h2)) (Nat.le_of_add_right_le h1)))
 by_cases h0:y > 0
 ·refine Qy h0 ?_
  have hy':j+1+y≤b.size:=by(first | lia | omega)
  have M3:=M2.mid.manyB (k:=y) hy' fun m n h1 h2 h3 h4=>Int.le_trans (R m h1 h2) (T.sa i n h3 h4)
  by_cases e:j+1+y=b.size
  ·exact Qy (QZ e) (wpS_pure ⟨al,.inl ⟨_,_,_,_,_,_,_,rfl,M3.endB e⟩⟩)
  exact Qz (Zo e) (Qbn (n:=n) T al ⟨M3,M.hi,Nat.lt_of_le_of_ne hy' e,by rw [Array.size_append]; exact Nat.le_trans M2.hn (Nat.le_add_right _ _)⟩ R' hN)
 ·have e0:y=0:=by(first | lia | omega)
  subst e0
  exact Qz h0 (Qbn T al M2 R' hN)
theorem QfH {ac bc:Nat} (T:Two a b) (hk:kindOf st=oneType') (al0:Alike st st2) (M:Am a b r i j n) (hN:N≤n+1) :
  wpS (model prog w) A E s (QcO a b r i j ac bc g) (Qix st a b N N) st2:=by
 have hi:=Nat.lt_of_succ_lt M.hi
 have hj:=M.hj
 unfold QcO
 refine wpS_bind (QbV fun st3 h3=>?_)
 have al:=h3 _ al0
 have k2:=al.1.trans hk
 refine wpS_bind (QR hj (wpS_bind ?_))
 refine JP k2 (T.kb _ (Array.getElem_mem hj)) T.ka (Nat.le_of_eq (Nat.add_sub_cancel' (Nat.le_of_lt hi))) (Nat.sub_pos_of_lt hi) (fun x y h1 h2=>T.sa _ _ (Nat.add_le_add_left h1 _) (Nat.add_lt_of_lt_sub' h2)) fun y hy pk qk=>?_
 rw [Yb hj] at pk qk
 have R:∀ m,i≤m->m<i+y->K a m≤K b j:=fun m h1 h2=>of_decide_eq_true (QdT (P:=fun m=>decide (K a m≤K b j)=true) (pk (m - i) (Nat.sub_lt_left_of_lt_add h1 h2)) h1)
 have R':∀ m,i+y≤m->m<a.size->K b j≤K a m:=fun m h1 h2=>Int.le_of_lt (Int.not_le.mp (of_decide_eq_false (QdT (P:=fun m=>decide (K a m≤K b j)=false) (qk (m - i) (Nat.le_sub_of_add_le' h1) (Nat.sub_lt_sub_right (Nat.le_of_add_right_le h1) h2)) (Nat.le_of_add_right_le h1))))
 by_cases h0:y > 0
 ·refine Qy h0 ?_
  have hy':i+y≤a.size:=by(first | lia | omega)
  have M3:=M.mid.manyA (k:=y) hy' fun m n h1 h2 h3 h4=>Int.le_trans (R m h1 h2) (T.sb j n h3 h4)
  by_cases e:i+y+1=a.size
  ·exact Qy (QZ e) (wpS_pure ⟨al,.inl ⟨_,_,_,_,_,_,_,rfl,M3.lastA e T.cl⟩⟩)
  refine Qz (Zo e) ?_
  by_cases e2:i+y=a.size
  ·exact Qy (QZ e2) (wpS_pure ⟨al,.inl ⟨_,_,_,_,_,_,_,rfl,M3.endA e2⟩⟩)
  exact Qz (Zo e2) (Qbo (n:=n) T al k2 ⟨M3,Nat.lt_of_le_of_ne (Nat.lt_of_le_of_ne hy' e2) e,hj,by rw [Array.size_append]; exact Nat.le_trans M.hn (Nat.le_add_right _ _)⟩ R' hN)
 ·have e0:y=0:=by(first | lia | omega)
  subst e0
  exact Qz h0 (Qbo T al k2 M R' hN)
theorem Qeu {ac bc:Nat} (T:Two a b) (hk:kindOf st=oneType') (al:Alike st st2) (M:Am a b r i j n) :
  wpS (model prog w) A E s (Qde a b r i j ac bc g) (Qiy st a b n) st2:=by
 unfold Qde
 refine wpS_bind (wpS_lift (wpAny_rule ⟨rfl,?_⟩))
 refine wpS_bind (wpS_forRange (I:=fun y c st'=>Alike st st'∧∃ r i j g ac bc,c=(none,r,i,j,g,ac,bc)∧Am a b r i j (n+y)) ?s2 ?f2 ⟨al,r,i,j,_,ac,bc,rfl,M⟩)
 case f2 =>
  rintro c st' ⟨_,r,i,j,g,ac,bc,rfl,M⟩
  exact(M.no (by(first | lia | omega))).elim
 case s2 =>
  rintro y c st' _ hy ⟨al,r,i,j,g,ac,bc,rfl,M⟩
  have fin:∀ g,wpS (model prog w) A E s (QcO a b r i j ac bc g) (fun r st'=>match r with
    | .done c=>wpS (model prog w) A E s (match c.fst with
      | some o=>pure (ForInStep.done (some o,c.snd.fst,c.snd.snd.fst,c.snd.snd.snd.fst,c.snd.snd.snd.snd.fst))
      | none=>do
       setG (c.snd.snd.snd.snd.fst+1)
       pure (ForInStep.yield (none,c.snd.fst,c.snd.snd.fst,c.snd.snd.snd.fst,c.snd.snd.snd.snd.fst+1)):StateT SortSt Sem (ForInStep StR)) (Qiy st a b n) st'
    | .yield c=>Alike st st'∧∃ r i j g ac bc,c=(none,r,i,j,g,ac,bc)∧Am a b r i j (n+(y+1))) st':=fun g =>
   wpS_mono (QfH (N:=n+(y+1)) T hk al M (Nat.le_refl _)) fun q st4 hq=>by
    cases q with
    | yield c=>exact hq
    | done c =>
     obtain⟨al4,(⟨out,r,i,j,g,ac,bc,rfl,R⟩ | ⟨r,i,j,g,ac,bc,rfl,M⟩)⟩:=hq
     ·exact wpS_pure ⟨al4,_,_,_,_,_,rfl,R⟩
     ·exact wpS_bind (QbV fun st5 h5=>wpS_pure ⟨h5 _ al4,_,_,_,_,rfl,M.mid,M.hi,M.hj,Nat.le_of_add_right_le M.hn⟩)
  exact QcN (wpS_mono (fin _) fun q _ h=>by cases q <;> exact h) (wpS_mono (fin _) fun q _ h=>by cases q <;> exact h)
theorem Qev (T:Two a b) (hk:kindOf st=oneType') (al:Alike st st2) (M:Am a b r i j n) :
  wpS (model prog w) A E s (Qdf a b r i j g) (Qiy st a b (n+1)) st2:=by
 unfold Qdf
 refine wpS_bind (wpS_forRange (I:=fun y c st'=>st'=st2∧∃ r i j ac bc,c=(none,r,i,j,ac,bc)∧Am a b r i j (n+y)) ?s1 ?f1 ⟨rfl,r,i,j,0,0,rfl,M⟩)
 case f1 =>
  rintro c st' ⟨_,r,i,j,ac,bc,rfl,M⟩
  exact(M.no (by(first | lia | omega))).elim
 case s1 =>
  rintro y c st' _ hy ⟨rfl,r,i,j,ac,bc,rfl,M⟩
  refine wpS_mono (QgM (N:=n+(y+1)) T (al.1.trans hk) M (Nat.le_refl _)) fun q st4 hq=>?_
  cases q with
  | yield c=>exact hq
  | done c =>
   obtain⟨rfl,(⟨out,r,i,j,ac,bc,rfl,R⟩ | ⟨r,i,j,ac,bc,rfl,M⟩)⟩:=hq
   ·exact wpS_pure ⟨al,_,_,_,_,_,rfl,R⟩
   ·exact Qeu T hk al ⟨M.mid,M.hi,M.hj,Nat.le_trans (Nat.add_le_add_left (Nat.succ_le_succ (Nat.zero_le y)) n) M.hn⟩
theorem Qj5 {Q:Array Keyed->SortSt->Prop} (T:Two a b) (hk:kindOf st=oneType') (na:0<a.size) (nb:0<b.size)
  (h:∀ out st',Alike st st'->Mrg out a b->Q out st'):wpS (model prog w) A E s (mlo' a b) Q st:=by
 have M0:Mid a b #[] 0 0:=⟨⟨List.Perm.refl _,by simpa using QdS T.sa,by simpa using QdS T.sb⟩,Nat.zero_le _,Nat.zero_le _⟩
 have M1:Mid a b #[b[0]] 0 1:=M0.pushB nb fun m _ hm=>Int.le_trans T.c0 (T.sa 0 m (Nat.zero_le _) hm)
 rw [Qj4]
 refine wpS_bind (wpS_lift (wpAny_rule ⟨rfl,wpS_bind (QR nb ?_)⟩))
 by_cases e1:1=b.size
 ·exact Qy (QZ e1) (wpS_pure (h _ _ (.refl st) (M1.endB e1)))
 refine Qz (Zo e1) ?_
 by_cases e2:0+1=a.size
 ·exact Qy (QZ e2) (wpS_pure (h _ _ (.refl st) (M1.lastA e2 T.cl)))
 refine Qz (Zo e2) (wpS_bind (wpS_get ?_))
 unfold Qj3
 refine wpS_bind (wpS_forRange (I:=fun x c st'=>Alike st st'∧∃ r i j g,c=(none,r,i,j,g)∧Am a b r i j (x+1)) ?step ?fin ⟨.refl st,_,0,1,_,rfl,M1,by(first | lia | omega),by(first | lia | omega),Nat.le_refl 1⟩)
 case fin =>
  rintro c st' ⟨_,r,i,j,g,rfl,M⟩
  exact(M.no (by(first | lia | omega))).elim
 case step =>
  rintro x c st' _ hx ⟨al,r,i,j,g,rfl,M⟩
  refine wpS_mono (Qev T hk al M) fun q st4 hq=>?_
  cases q with
  | yield c=>exact hq
  | done c =>
   obtain⟨al4,out,r,i,j,g,rfl,R⟩:=hq
   exact wpS_pure (h out _ al4 R)
end
end SO
end
section
namespace SO
open PySem PyProof PyProof.Rows
structure JH (o p q t:List Keyed):Prop where
 perm:(p++q++o).Perm t
 sp:Srt (p++o)
 sq:Srt (q++o)
theorem JH.swap {o p q t:List Keyed} (h:JH o p q t):JH o q p t :=
 ⟨(List.Perm.append_right o List.perm_append_comm).trans h.perm,h.sq,h.sp⟩
theorem JH.take {o x p q t:List Keyed} (h:JH o (p++x) q t) (c:∀ u∈q,∀ v∈x,nk u≤nk v):JH (x++o) p q t:=by
 refine⟨?_,by rw [← List.append_assoc]; exact h.sp,?_⟩
 ·refine List.Perm.trans ?_ h.perm
  rw [List.append_assoc p,List.append_assoc p,List.append_assoc p]
  refine List.Perm.append_left p ?_
  rw [← List.append_assoc,List.append_assoc x,← List.append_assoc]
  exact List.Perm.append_right o List.perm_append_comm
 have h1:=h.sp
 rw [List.append_assoc] at h1
 have h2:=List.pairwise_append.mp h.sq
 refine List.pairwise_append.mpr ⟨h2.1,(List.pairwise_append.mp h1).2.1,fun u hu v hv=>?_⟩
 rcases List.mem_append.mp hv with hv | hv
 ·exact c u hu v hv
 ·exact h2.2.2 u hu v hv
theorem Qao (a:Array Keyed) (i:Nat):(a.extract 0 i).toList=a.toList.take i:=by
 rw [Array.toList_extract,List.extract_eq_take_drop,List.drop_zero,Nat.sub_zero]
theorem Jz (a:Array Keyed) (k i:Nat):(a.extract k i).toList=(a.toList.drop k).take (i - k):=by
 rw [Array.toList_extract,List.extract_eq_take_drop]
theorem QdU {a:Array Keyed} {i:Nat} {y:Keyed} (h:y∈a.toList.take i):∃ m,m<i∧m<a.size∧nk y=K a m:=by
 obtain⟨m,hm,e⟩:=List.getElem_of_mem h
 rw [List.length_take,Array.length_toList] at hm
 rw [List.getElem_take,Array.getElem_toList] at e
 exact⟨m,by(first | lia | omega),by(first | lia | omega),by rw [← e,Yb]⟩
theorem Qbp {l:List Keyed} {k i:Nat} (h:k≤i):l.take i=l.take k++(l.drop k).take (i - k):=by
 rw [← List.take_add,show k+(i - k)=i by(first | lia | omega)]
theorem QfI {a:Array Keyed} {i:Nat} (h:i<a.size):a.toList.take (i+1)=a.toList.take i++[a[i]]:=by
 rw [List.take_succ_eq_append_getElem (by rw [Array.length_toList]; exact h),Array.getElem_toList]
structure MidH (a b r:Array Keyed) (i j:Nat):Prop where
 jl:JH r.toList.reverse (a.toList.take i) (b.toList.take j) (a.toList++b.toList)
 hi:i≤a.size
 hj:j≤b.size
theorem MidH.size {a b r:Array Keyed} {i j:Nat} (M:MidH a b r i j):r.size+i+j=a.size+b.size:=by
 have:=M.jl.perm.length_eq
 simp only [List.length_append,List.length_take,Array.length_toList,List.length_reverse] at this
 have:=M.hi
 have:=M.hj
 (first | lia | omega)
theorem MidH.pushA {a b r:Array Keyed} {i j:Nat} (M:MidH a b r (i+1) j) (h:i<a.size) (c:∀ m,m<j->m<b.size->K b m≤K a i):MidH a b (r.push a[i]) i j:=by
 refine⟨?_,Nat.le_of_lt h,M.hj⟩
 rw [Array.toList_push,List.reverse_append,List.reverse_singleton]
 refine JH.take (by have:=M.jl; rw [QfI h] at this; exact this) fun u hu v hv=>?_
 obtain⟨m,h1,h2,e⟩:=QdU hu
 rw [List.mem_singleton.mp hv,Yb h,e]
 exact c m h1 h2
theorem MidH.pushB {a b r:Array Keyed} {i j:Nat} (M:MidH a b r i (j+1)) (h:j<b.size) (c:∀ m,m<i->m<a.size->K a m≤K b j):MidH a b (r.push b[j]) i j:=by
 refine⟨?_,M.hi,Nat.le_of_lt h⟩
 rw [Array.toList_push,List.reverse_append,List.reverse_singleton]
 refine(JH.take (by have:=M.jl.swap; rw [QfI h] at this; exact this) fun u hu v hv=>?_).swap
 obtain⟨m,h1,h2,e⟩:=QdU hu
 rw [List.mem_singleton.mp hv,Yb h,e]
 exact c m h1 h2
theorem MidH.manyA {a b r:Array Keyed} {i j k:Nat} (M:MidH a b r i j) (h:k≤i) (c:∀ m n,k≤m->m<i->n<j->n<b.size->K b n≤K a m):MidH a b (r++(a.extract k i).reverse) k j:=by
 refine⟨?_,Nat.le_trans h M.hi,M.hj⟩
 rw [Array.toList_append,Array.toList_reverse,List.reverse_append,List.reverse_reverse,Jz]
 refine JH.take (by have:=M.jl; rw [Qbp h] at this; exact this) fun u hu v hv=>?_
 obtain⟨n,h4,h5,e2⟩:=QdU hu
 obtain⟨m,h1,h2,h3,e⟩:=Y3 hv
 rw [e,e2]
 exact c m n h1 (by(first | lia | omega)) h4 h5
theorem MidH.manyB {a b r:Array Keyed} {i j k:Nat} (M:MidH a b r i j) (h:k≤j) (c:∀ m n,k≤m->m<j->n<i->n<a.size->K a n≤K b m):MidH a b (r++(b.extract k j).reverse) i k:=by
 refine⟨?_,M.hi,Nat.le_trans h M.hj⟩
 rw [Array.toList_append,Array.toList_reverse,List.reverse_append,List.reverse_reverse,Jz]
 refine(JH.take (by have:=M.jl.swap; rw [Qbp h] at this; exact this) fun u hu v hv=>?_).swap
 obtain⟨n,h4,h5,e2⟩:=QdU hu
 obtain⟨m,h1,h2,h3,e⟩:=Y3 hv
 rw [e,e2]
 exact c m n h1 (by(first | lia | omega)) h4 h5
theorem MidH.endA {a b r:Array Keyed} {i j:Nat} (M:MidH a b r i j) (h:i=0):Mrg (a.extract 0 i++b.extract 0 j++r.reverse) a b:=by
 subst h
 have p:=M.jl.perm
 rw [List.take_zero,List.nil_append] at p
 rw [Mrg,Array.toList_append,Array.toList_append,Qao,Qao,List.take_zero,List.nil_append,Array.toList_reverse]
 exact⟨p,M.jl.sq⟩
theorem MidH.endB {a b r:Array Keyed} {i j:Nat} (M:MidH a b r i j) (h:j=0):Mrg (a.extract 0 i++b.extract 0 j++r.reverse) a b:=by
 subst h
 have p:=M.jl.perm
 rw [List.take_zero,List.append_nil] at p
 rw [Mrg,Array.toList_append,Array.toList_append,Qao,Qao,List.take_zero,List.append_nil,Array.toList_reverse]
 exact⟨p,M.jl.sp⟩
theorem MidH.firstB {a b r:Array Keyed} {i j:Nat} (M:MidH a b r i j) (h:j=1) (sa:SortedTo a a.size) (c:K b 0≤K a 0):Mrg (b.extract 0 j++a.extract 0 i++r.reverse) a b:=by
 subst h
 have N:=M.manyA (k:=0) (Nat.zero_le _) fun m n _ h2 h3 _=>by
  rw [show n=0 by(first | lia | omega)]
  exact Int.le_trans c (sa 0 m (by(first | lia | omega)) (by have:=M.hi; (first | lia | omega)))
 have:=N.endA rfl
 rw [Array.reverse_append,Array.reverse_reverse,← Array.append_assoc] at this
 rw [show a.extract 0 0 = #[] by simp,Array.empty_append] at this
 exact this
end SO
end
section
namespace SO
open PySem PyProof PyProof.Rows
noncomputable abbrev HiO:=Option (Array Keyed)×Nat×Nat×Array Keyed×Nat×Nat
noncomputable abbrev HiR:=Option (Array Keyed)×Nat×Nat×Array Keyed×Nat
noncomputable abbrev HiL:=Option (Array Keyed)×Nat×Nat×Array Keyed×Nat×Nat×Nat
noncomputable def Qiz (a b:Array Keyed) (g i j:Nat) (r:Array Keyed) (ac bc:Nat):StateT SortSt Sem (ForInStep HiO):=do
 let z ← lt' (← elem' b (j - 1)) (← elem' a (i - 1))
 match z with
 | some y =>
  if y=true then do
   let r:=r.push (← elem' a (i - 1))
   if (i - 1 == 0)=true then pure (ForInStep.done (some (a.extract 0 (i - 1)++b.extract 0 j++r.reverse),i - 1,j,r,ac+1,0))
   else if ac+1≥g then pure (ForInStep.done (none,i - 1,j,r,ac+1,0)) else pure (ForInStep.yield (none,i - 1,j,r,ac+1,0))
  else do
   let r:=r.push (← elem' b (j - 1))
   if (j - 1 == 1)=true then pure (ForInStep.done (some (b.extract 0 (j - 1)++a.extract 0 i++r.reverse),i,j - 1,r,0,bc+1))
   else if bc+1≥g then pure (ForInStep.done (none,i,j - 1,r,0,bc+1)) else pure (ForInStep.yield (none,i,j - 1,r,0,bc+1))
 | _=>pure (ForInStep.done (some (a.extract 0 i++b.extract 0 j++r.reverse),i,j,r,ac,bc))
noncomputable def QbW (a b:Array Keyed) (g k k2 i j:Nat) (r:Array Keyed):StateT SortSt Sem (ForInStep HiL):=do
 let r:=r.push (← elem' a (i - 1))
 if (i - 1 == 0)=true then pure (ForInStep.done (some (a.extract 0 (i - 1)++b.extract 0 j++r.reverse),i - 1,j,r,g,k,k2))
 else if (decide (k<7) && decide (k2<7))=true then pure (ForInStep.done (none,i - 1,j,r,g,k,k2))
 else pure (ForInStep.yield (none,i - 1,j,r,g,k,k2))
noncomputable def QbX (a b:Array Keyed) (g k bc i j:Nat) (r:Array Keyed):StateT SortSt Sem (ForInStep HiL):=do
 let r:=r.push (← elem' b (j - 1))
 if (j - 1 == 1)=true then pure (ForInStep.done (some (b.extract 0 (j - 1)++a.extract 0 i++r.reverse),i,j - 1,r,g,k,bc)) else do
  let z ← gal' true (← elem' a (i - 1)) b 0 (j - 1) (j - 1 - 1)
  match z with
  | some y =>
   if j - 1 - y > 0 then
    if (y == 1)=true then pure (ForInStep.done (some (b.extract 0 y++a.extract 0 i++(r++(b.extract y (j - 1)).reverse).reverse),i,y,r++(b.extract y (j - 1)).reverse,g,k,j - 1 - y))
    else if (y == 0)=true then pure (ForInStep.done (some (a.extract 0 i++b.extract 0 y++(r++(b.extract y (j - 1)).reverse).reverse),i,y,r++(b.extract y (j - 1)).reverse,g,k,j - 1 - y))
    else QbW a b g k (j - 1 - y) i y (r++(b.extract y (j - 1)).reverse)
   else QbW a b g k (j - 1 - y) i (j - 1) r
  | _=>pure (ForInStep.done (some (a.extract 0 i++b.extract 0 (j - 1)++r.reverse),i,j - 1,r,g,k,bc))
noncomputable def QcP (a b:Array Keyed) (i j:Nat) (r:Array Keyed) (ac bc g:Nat):StateT SortSt Sem (ForInStep HiL):=do
 setG g
 let z ← gal' false (← elem' b (j - 1)) a 0 i (i - 1)
 match z with
 | some y =>
  if i - y > 0 then
   if (y == 0)=true then pure (ForInStep.done (some (a.extract 0 y++b.extract 0 j++(r++(a.extract y i).reverse).reverse),y,j,r++(a.extract y i).reverse,g,i - y,bc))
   else QbX a b g (i - y) bc y j (r++(a.extract y i).reverse)
  else QbX a b g (i - y) bc i j r
 | _=>pure (ForInStep.done (some (a.extract 0 i++b.extract 0 j++r.reverse),i,j,r,g,ac,bc))
noncomputable def Qdg (a b:Array Keyed) (i j:Nat) (r:Array Keyed) (ac bc g:Nat):StateT SortSt Sem (ForInStep HiR):=do
 liftM (rule "list.sort.gallop")
 let c ← forIn [0:a.size+b.size] ((none,i,j,r,g+1,ac,bc):HiL) fun _ c =>
  if c.snd.snd.snd.snd.fst > 1 then QcP a b c.snd.fst c.snd.snd.fst c.snd.snd.snd.fst c.snd.snd.snd.snd.snd.fst c.snd.snd.snd.snd.snd.snd (c.snd.snd.snd.snd.fst - 1)
  else QcP a b c.snd.fst c.snd.snd.fst c.snd.snd.snd.fst c.snd.snd.snd.snd.snd.fst c.snd.snd.snd.snd.snd.snd c.snd.snd.snd.snd.fst
 match c.fst with
 | some o=>pure (ForInStep.done (some o,c.snd.fst,c.snd.snd.fst,c.snd.snd.snd.fst,c.snd.snd.snd.snd.fst))
 | none=>do
  setG (c.snd.snd.snd.snd.fst+1)
  pure (ForInStep.yield (none,c.snd.fst,c.snd.snd.fst,c.snd.snd.snd.fst,c.snd.snd.snd.snd.fst+1))
noncomputable def Qdh (a b:Array Keyed) (i j:Nat) (r:Array Keyed) (g:Nat):StateT SortSt Sem (ForInStep HiR):=do
 let c ← forIn [0:a.size+b.size] ((none,i,j,r,0,0):HiO) fun _ c=>Qiz a b g c.snd.fst c.snd.snd.fst c.snd.snd.snd.fst c.snd.snd.snd.snd.fst c.snd.snd.snd.snd.snd
 match c.fst with
 | some o=>pure (ForInStep.done (some o,c.snd.fst,c.snd.snd.fst,c.snd.snd.snd.fst,g))
 | none=>Qdg a b c.snd.fst c.snd.snd.fst c.snd.snd.snd.fst c.snd.snd.snd.snd.fst c.snd.snd.snd.snd.snd g
noncomputable def Qj6 (a b r:Array Keyed) (g:Nat):StateT SortSt Sem (Array Keyed):=do
 let c ← forIn [0:a.size+b.size] ((none,a.size - 1,b.size,r,g):HiR) fun _ c=>Qdh a b c.snd.fst c.snd.snd.fst c.snd.snd.snd.fst c.snd.snd.snd.snd
 match c.fst with
 | some o=>pure o
 | none=>liftM (unsupported "internal:list.sort.merge-bound")
theorem Qj7 (a b:Array Keyed):mhi' a b=(do
 liftM (rule "list.sort.merge-hi")
 let x ← elem' a (a.size - 1)
 if (a.size - 1 == 0)=true then pure (a.extract 0 (a.size - 1)++b.extract 0 b.size++(#[x]:Array Keyed).reverse)
 else if (b.size == 1)=true then pure (b.extract 0 b.size++a.extract 0 (a.size - 1)++(#[x]:Array Keyed).reverse)
 else do
  let t ← get
  Qj6 a b #[x] (gallopOf t)):=by
 kernel_rfl
end SO
end
section
namespace SO
open PySem PyProof PyProof.Rows
theorem MidH.popA {a b r:Array Keyed} {i j:Nat} (M:MidH a b r i j) (h0:0<i) (h:i - 1<a.size) (c:∀ m,m<j->m<b.size->K b m≤K a (i - 1)):MidH a b (r.push a[i - 1]) (i - 1) j:=by
 obtain⟨n,rfl⟩:∃ n,i=n+1:=⟨i - 1,(Nat.succ_pred_eq_of_pos h0).symm⟩
 exact M.pushA h c
theorem MidH.popB {a b r:Array Keyed} {i j:Nat} (M:MidH a b r i j) (h0:0<j) (h:j - 1<b.size) (c:∀ m,m<i->m<a.size->K a m≤K b (j - 1)):MidH a b (r.push b[j - 1]) i (j - 1):=by
 obtain⟨n,rfl⟩:∃ n,j=n+1:=⟨j - 1,(Nat.succ_pred_eq_of_pos h0).symm⟩
 exact M.pushB h c
structure AmH (a b r:Array Keyed) (i j n:Nat):Prop where
 mid:MidH a b r i j
 hi:0<i
 hj:1<j
 hn:n≤r.size
noncomputable def PoH (st:SortSt) (a b:Array Keyed) (n N:Nat):ForInStep HiO->SortSt->Prop
 | .done c,st'=>st'=st∧((∃ out i j r ac bc,c=(some out,i,j,r,ac,bc)∧Mrg out a b)∨∃ i j r ac bc,c=(none,i,j,r,ac,bc)∧AmH a b r i j n)
 | .yield c,st'=>st'=st∧∃ i j r ac bc,c=(none,i,j,r,ac,bc)∧AmH a b r i j N
noncomputable def PlH (st:SortSt) (a b:Array Keyed) (n N:Nat):ForInStep HiL->SortSt->Prop
 | .done c,st'=>Alike st st'∧((∃ out i j r g ac bc,c=(some out,i,j,r,g,ac,bc)∧Mrg out a b)∨∃ i j r g ac bc,c=(none,i,j,r,g,ac,bc)∧AmH a b r i j n)
 | .yield c,st'=>Alike st st'∧∃ i j r g ac bc,c=(none,i,j,r,g,ac,bc)∧AmH a b r i j N
noncomputable def PbH (st:SortSt) (a b:Array Keyed) (N:Nat):ForInStep HiR->SortSt->Prop
 | .done c,st'=>Alike st st'∧∃ out i j r g,c=(some out,i,j,r,g)∧Mrg out a b
 | .yield c,st'=>Alike st st'∧∃ i j r g,c=(none,i,j,r,g)∧AmH a b r i j N
section
variable {prog:Program} {w:World} {A:Around} {E:Value->Shared->Prop} {s:Shared}
variable {st st2:SortSt} {a b r:Array Keyed} {i j n N g:Nat}
theorem AmH.no (M:AmH a b r i j n) (h:a.size+b.size≤n):False:=by
 have:=M.mid.size
 have:=M.hi
 have:=M.hn
 (first | lia | omega)
theorem AmH.ia (M:AmH a b r i j n):i - 1<a.size:=Nat.lt_of_lt_of_le (Nat.pred_lt_of_lt M.hi) M.mid.hi
theorem AmH.jb (M:AmH a b r i j n):j - 1<b.size:=Nat.lt_of_lt_of_le (Nat.pred_lt_of_lt M.hj) M.mid.hj
theorem AmH.popA (M:AmH a b r i j n) (c:∀ m,m<j->m<b.size->K b m≤K a (i - 1)) (e:¬ i - 1=0) (hN:N≤n+1):AmH a b (r.push (a[i - 1]'M.ia)) (i - 1) j N :=
 ⟨M.mid.popA M.hi M.ia c,Nat.pos_of_ne_zero e,M.hj,by rw [Array.size_push]; exact Nat.le_trans hN (Nat.succ_le_succ M.hn)⟩
theorem AmH.popB (M:AmH a b r i j n) (c:∀ m,m<i->m<a.size->K a m≤K b (j - 1)) (e:¬ j - 1=1) (hN:N≤n+1):AmH a b (r.push (b[j - 1]'M.jb)) i (j - 1) N :=
 ⟨M.mid.popB (Nat.lt_of_succ_lt M.hj) M.jb c,M.hi,by have:=M.hj; (first | lia | omega),by rw [Array.size_push]; exact Nat.le_trans hN (Nat.succ_le_succ M.hn)⟩
theorem QgN {ac bc:Nat} (T:Two a b) (hk:kindOf st=oneType') (M:AmH a b r i j n) (hN:N≤n+1) :
  wpS (model prog w) A E s (Qiz a b g i j r ac bc) (PoH st a b N N) st:=by
 have hi:=M.ia
 have hj:=M.jb
 unfold Qiz
 refine wpS_bind (QR hj (wpS_bind (QR hi (wpS_bind (QfF hk (T.kb _ (Array.getElem_mem hj)) (T.ka _ (Array.getElem_mem hi)) ?_)))))
 rw [Yb hj,Yb hi]
 by_cases hw:K b (j - 1)<K a (i - 1)
 ·refine Qy (decide_eq_true hw) (wpS_bind (QR hi ?_))
  have c:∀ m,m<j->m<b.size->K b m≤K a (i - 1):=fun m h1 _=>Int.le_trans (T.sb m (j - 1) (Nat.le_pred_of_lt h1) hj) (Int.le_of_lt hw)
  by_cases e:i - 1=0
  ·exact Qy (QZ e) (wpS_pure ⟨rfl,.inl ⟨_,_,_,_,_,_,rfl,(M.mid.popA M.hi hi c).endA e⟩⟩)
  have M':=M.popA c e hN
  exact Qz (Zo e) (QcN (wpS_pure ⟨rfl,.inr ⟨_,_,_,_,_,rfl,M'⟩⟩) (wpS_pure ⟨rfl,_,_,_,_,_,rfl,M'⟩))
 ·refine Qz (QaI hw) (wpS_bind (QR hj ?_))
  have c:∀ m,m<i->m<a.size->K a m≤K b (j - 1):=fun m h1 _=>Int.le_trans (T.sa m (i - 1) (Nat.le_pred_of_lt h1) hi) (Int.not_lt.mp hw)
  by_cases e:j - 1=1
  ·exact Qy (QZ e) (wpS_pure ⟨rfl,.inl ⟨_,_,_,_,_,_,rfl,(M.mid.popB (Nat.lt_of_succ_lt M.hj) hj c).firstB e T.sa T.c0⟩⟩)
  have M':=M.popB c e hN
  exact Qz (Zo e) (QcN (wpS_pure ⟨rfl,.inr ⟨_,_,_,_,_,rfl,M'⟩⟩) (wpS_pure ⟨rfl,_,_,_,_,_,rfl,M'⟩))
theorem Qbq {k k2:Nat} (al:Alike st st2) (M:AmH a b r i j n) (c:∀ m,m<j->m<b.size->K b m≤K a (i - 1)) (hN:N≤n+1) :
  wpS (model prog w) A E s (QbW a b g k k2 i j r) (PlH st a b N N) st2:=by
 unfold QbW
 refine wpS_bind (QR M.ia ?_)
 by_cases e:i - 1=0
 ·exact Qy (QZ e) (wpS_pure ⟨al,.inl ⟨_,_,_,_,_,_,_,rfl,(M.mid.popA M.hi M.ia c).endA e⟩⟩)
 have M':=M.popA c e hN
 exact Qz (Zo e) (QcN (wpS_pure ⟨al,.inr ⟨_,_,_,_,_,_,rfl,M'⟩⟩) (wpS_pure ⟨al,_,_,_,_,_,_,rfl,M'⟩))
theorem Qj8 {r x:Array Keyed} {n:Nat} (h:n≤r.size):n≤(r++x).size:=by
 rw [Array.size_append]; exact Nat.le_trans h (Nat.le_add_right _ _)
theorem Qbr {k bc:Nat} (T:Two a b) (al:Alike st st2) (k2:kindOf st2=oneType') (M:AmH a b r i j n) (c:∀ m,m<i->m<a.size->K a m≤K b (j - 1)) (hN:N≤n+1) :
  wpS (model prog w) A E s (QbX a b g k bc i j r) (PlH st a b N N) st2:=by
 have hi:=M.ia
 have hj:=M.jb
 unfold QbX
 refine wpS_bind (QR hj ?_)
 by_cases e:j - 1=1
 ·exact Qy (QZ e) (wpS_pure ⟨al,.inl ⟨_,_,_,_,_,_,_,rfl,(M.mid.popB (Nat.lt_of_succ_lt M.hj) hj c).firstB e T.sa T.c0⟩⟩)
 have M2:AmH a b (r.push b[j - 1]) i (j - 1) n:=M.popB c e (Nat.le_succ n)
 refine Qz (Zo e) (wpS_bind (QR hi (wpS_bind ?_)))
 refine JP k2 (T.ka _ (Array.getElem_mem hi)) T.kb (by rw [Nat.zero_add]; exact Nat.le_of_lt hj) (Nat.pred_lt_of_lt (Nat.lt_of_succ_lt M2.hj)) (fun x y h1 h2=>T.sb _ _ (Nat.add_le_add_left h1 _) (by rw [Nat.zero_add]; exact Nat.lt_trans h2 hj)) fun y hy pk qk=>?_
 rw [Yb hi] at pk qk
 simp only [Nat.zero_add] at pk qk
 have R:∀ m,m<y->K b m≤K a (i - 1):=fun m h=>Int.le_of_lt (of_decide_eq_true (pk m h))
 have R':∀ m,y≤m->m<j - 1->K a (i - 1)≤K b m:=fun m h1 h2=>Int.not_lt.mp (of_decide_eq_false (qk m h1 h2))
 by_cases h0:j - 1 - y > 0
 ·refine Qy h0 ?_
  have M3:=M2.mid.manyB (k:=y) hy fun m n h1 h2 h3 h4=>Int.le_trans (T.sa n (i - 1) (Nat.le_pred_of_lt h3) hi) (R' m h1 h2)
  by_cases e:y=1
  ·exact Qy (QZ e) (wpS_pure ⟨al,.inl ⟨_,_,_,_,_,_,_,rfl,M3.firstB e T.sa T.c0⟩⟩)
  refine Qz (Zo e) ?_
  by_cases e2:y=0
  ·exact Qy (QZ e2) (wpS_pure ⟨al,.inl ⟨_,_,_,_,_,_,_,rfl,M3.endB e2⟩⟩)
  exact Qz (Zo e2) (Qbq (n:=n) al ⟨M3,M.hi,by(first | lia | omega),Qj8 M2.hn⟩ (fun m h _=>R m h) hN)
 ·exact Qz h0 (Qbq al M2 (fun m h _=>R m (Nat.lt_of_lt_of_le h (by(first | lia | omega)))) hN)
theorem QfJ {ac bc:Nat} (T:Two a b) (hk:kindOf st=oneType') (al0:Alike st st2) (M:AmH a b r i j n) (hN:N≤n+1) :
  wpS (model prog w) A E s (QcP a b i j r ac bc g) (PlH st a b N N) st2:=by
 have hj:=M.jb
 unfold QcP
 refine wpS_bind (QbV fun st3 h3=>?_)
 have al:=h3 _ al0
 have k2:=al.1.trans hk
 refine wpS_bind (QR hj (wpS_bind ?_))
 refine JP k2 (T.kb _ (Array.getElem_mem hj)) T.ka (by rw [Nat.zero_add]; exact M.mid.hi) (Nat.pred_lt_of_lt M.hi) (fun x y h1 h2=>T.sa _ _ (Nat.add_le_add_left h1 _) (by rw [Nat.zero_add]; exact Nat.lt_of_lt_of_le h2 M.mid.hi)) fun y hy pk qk=>?_
 rw [Yb hj] at pk qk
 simp only [Nat.zero_add] at pk qk
 have R:∀ m,m<y->K a m≤K b (j - 1):=fun m h=>of_decide_eq_true (pk m h)
 have R':∀ m,y≤m->m<i->K b (j - 1)≤K a m:=fun m h1 h2=>Int.le_of_lt (Int.not_le.mp (of_decide_eq_false (qk m h1 h2)))
 by_cases h0:i - y > 0
 ·refine Qy h0 ?_
  have M3:=M.mid.manyA (k:=y) hy fun m n h1 h2 h3 h4=>Int.le_trans (T.sb n (j - 1) (Nat.le_pred_of_lt h3) hj) (R' m h1 h2)
  by_cases e2:y=0
  ·exact Qy (QZ e2) (wpS_pure ⟨al,.inl ⟨_,_,_,_,_,_,_,rfl,M3.endA e2⟩⟩)
  exact Qz (Zo e2) (Qbr (n:=n) T al k2 ⟨M3,Nat.pos_of_ne_zero e2,M.hj,Qj8 M.hn⟩ (fun m h _=>R m h) hN)
 ·exact Qz h0 (Qbr T al k2 M (fun m h _=>R m (Nat.lt_of_lt_of_le h (by(first | lia | omega)))) hN)
theorem Qew {ac bc:Nat} (T:Two a b) (hk:kindOf st=oneType') (al:Alike st st2) (M:AmH a b r i j n) :
  wpS (model prog w) A E s (Qdg a b i j r ac bc g) (PbH st a b n) st2:=by
 unfold Qdg
 refine wpS_bind (wpS_lift (wpAny_rule ⟨rfl,?_⟩))
 refine wpS_bind (wpS_forRange (I:=fun y c st'=>Alike st st'∧∃ i j r g ac bc,c=(none,i,j,r,g,ac,bc)∧AmH a b r i j (n+y)) ?s2 ?f2 ⟨al,i,j,r,_,ac,bc,rfl,M⟩)
 case f2 =>
  rintro c st' ⟨_,i,j,r,g,ac,bc,rfl,M⟩
  exact(M.no (by(first | lia | omega))).elim
 case s2 =>
  rintro y c st' _ hy ⟨al,i,j,r,g,ac,bc,rfl,M⟩
  have fin:∀ g,wpS (model prog w) A E s (QcP a b i j r ac bc g) (fun r st'=>match r with
    | .done c=>wpS (model prog w) A E s (match c.fst with
      | some o=>pure (ForInStep.done (some o,c.snd.fst,c.snd.snd.fst,c.snd.snd.snd.fst,c.snd.snd.snd.snd.fst))
      | none=>do
       setG (c.snd.snd.snd.snd.fst+1)
       pure (ForInStep.yield (none,c.snd.fst,c.snd.snd.fst,c.snd.snd.snd.fst,c.snd.snd.snd.snd.fst+1)):StateT SortSt Sem (ForInStep HiR)) (PbH st a b n) st'
    | .yield c=>Alike st st'∧∃ i j r g ac bc,c=(none,i,j,r,g,ac,bc)∧AmH a b r i j (n+(y+1))) st':=fun g =>
   wpS_mono (QfJ (N:=n+(y+1)) T hk al M (Nat.le_refl _)) fun q st4 hq=>by
    cases q with
    | yield c=>exact hq
    | done c =>
     obtain⟨al4,(⟨out,i,j,r,g,ac,bc,rfl,R⟩ | ⟨i,j,r,g,ac,bc,rfl,M⟩)⟩:=hq
     ·exact wpS_pure ⟨al4,_,_,_,_,_,rfl,R⟩
     ·exact wpS_bind (QbV fun st5 h5=>wpS_pure ⟨h5 _ al4,_,_,_,_,rfl,M.mid,M.hi,M.hj,Nat.le_of_add_right_le M.hn⟩)
  exact QcN (wpS_mono (fin _) fun q _ h=>by cases q <;> exact h) (wpS_mono (fin _) fun q _ h=>by cases q <;> exact h)
theorem Qex (T:Two a b) (hk:kindOf st=oneType') (al:Alike st st2) (M:AmH a b r i j n) :
  wpS (model prog w) A E s (Qdh a b i j r g) (PbH st a b (n+1)) st2:=by
 unfold Qdh
 refine wpS_bind (wpS_forRange (I:=fun y c st'=>st'=st2∧∃ i j r ac bc,c=(none,i,j,r,ac,bc)∧AmH a b r i j (n+y)) ?s1 ?f1 ⟨rfl,i,j,r,0,0,rfl,M⟩)
 case f1 =>
  rintro c st' ⟨_,i,j,r,ac,bc,rfl,M⟩
  exact(M.no (by(first | lia | omega))).elim
 case s1 =>
  rintro y c st' _ hy ⟨rfl,i,j,r,ac,bc,rfl,M⟩
  refine wpS_mono (QgN (N:=n+(y+1)) T (al.1.trans hk) M (Nat.le_refl _)) fun q st4 hq=>?_
  cases q with
  | yield c=>exact hq
  | done c =>
   obtain⟨rfl,(⟨out,i,j,r,ac,bc,rfl,R⟩ | ⟨i,j,r,ac,bc,rfl,M⟩)⟩:=hq
   ·exact wpS_pure ⟨al,_,_,_,_,_,rfl,R⟩
   ·exact Qew T hk al ⟨M.mid,M.hi,M.hj,Nat.le_trans (Nat.add_le_add_left (Nat.succ_le_succ (Nat.zero_le y)) n) M.hn⟩
theorem Qj9 {Q:Array Keyed->SortSt->Prop} (T:Two a b) (hk:kindOf st=oneType') (na:0<a.size) (nb:0<b.size)
  (h:∀ out st',Alike st st'->Mrg out a b->Q out st'):wpS (model prog w) A E s (mhi' a b) Q st:=by
 have e:∀ x:Array Keyed,x.toList.take x.size=x.toList:=fun x=>List.take_of_length_le (by rw [Array.length_toList]; exact Nat.le_refl _)
 have M0:MidH a b #[] a.size b.size:=by
  refine⟨⟨?_,?_,?_⟩,Nat.le_refl _,Nat.le_refl _⟩
  ·rw [e,e]; simp
  ·rw [e]; simpa using QdS T.sa
  ·rw [e]; simpa using QdS T.sb
 have ha1:a.size - 1<a.size:=Nat.pred_lt_of_lt na
 have M1:MidH a b #[a[a.size - 1]] (a.size - 1) b.size:=M0.popA na ha1 fun m _ hm=>T.cl m hm
 rw [Qj7]
 refine wpS_bind (wpS_lift (wpAny_rule ⟨rfl,wpS_bind (QR ha1 ?_)⟩))
 by_cases e1:a.size - 1=0
 ·exact Qy (QZ e1) (wpS_pure (h _ _ (.refl st) (M1.endA e1)))
 refine Qz (Zo e1) ?_
 by_cases e2:b.size=1
 ·exact Qy (QZ e2) (wpS_pure (h _ _ (.refl st) (M1.firstB e2 T.sa T.c0)))
 refine Qz (Zo e2) (wpS_bind (wpS_get ?_))
 unfold Qj6
 refine wpS_bind (wpS_forRange (I:=fun x c st'=>Alike st st'∧∃ i j r g,c=(none,i,j,r,g)∧AmH a b r i j (x+1)) ?step ?fin ⟨.refl st,_,_,_,_,rfl,M1,Nat.pos_of_ne_zero e1,by(first | lia | omega),Nat.le_refl 1⟩)
 case fin =>
  rintro c st' ⟨_,i,j,r,g,rfl,M⟩
  exact(M.no (by(first | lia | omega))).elim
 case step =>
  rintro x c st' _ hx ⟨al,i,j,r,g,rfl,M⟩
  refine wpS_mono (Qex T hk al M) fun q st4 hq=>?_
  cases q with
  | yield c=>exact hq
  | done c =>
   obtain⟨al4,out,i,j,r,g,rfl,R⟩:=hq
   exact wpS_pure (h out _ al4 R)
end
end SO
end
section
namespace SO
open PySem PyProof PyProof.Rows
noncomputable def lay (xs:Array Keyed) (p:Nat) (l:List Keyed) (n:Nat):Array Keyed:=(l.zipIdx n).foldl (fun y (v,k)=>y.setIfInBounds (p+k) v) xs
theorem Qka (i:Nat):mergeAt' i=(do
 let z ← get
 let (some (u,m,pw),some (v,n,_)):=((pendingOf z)[i]?,(pendingOf z)[i+1]?) | unsupported "internal:list.sort.pending"
 set (setPending z (((pendingOf z).setIfInBounds i (u,m+n,pw)).eraseIdxIfInBounds (i+1)))
 let some k ← gal' false (← elem' (arrOf z) v) (arrOf z) u m 0 | return false
 if m - k == 0 then return true
 let some n ← gal' true (← elem' (arrOf z) (u+k+(m - k) - 1)) (arrOf z) v n (n - 1) | return false
 if n == 0 then return true
 let out ← if m - k≤n then mlo' ((arrOf z).extract (u+k) v) ((arrOf z).extract v (v+n)) else mhi' ((arrOf z).extract (u+k) v) ((arrOf z).extract v (v+n))
 modify fun z=>setArr z (lay (arrOf z) (u+k) out.toList 0)
 return (failedOf (← get)).isNone):=by rfl
theorem QdV (p:Nat):∀(l:List Keyed) (n:Nat) (xs:Array Keyed),p+n+l.length≤xs.size ->
  (lay xs p l n).toList=xs.toList.take (p+n)++(l++xs.toList.drop (p+n+l.length))
 | [],n,xs,_=>by
  show xs.toList=_
  rw [List.length_nil,Nat.add_zero,List.nil_append,List.take_append_drop]
 | v::l,n,xs,h=>by
  rw [List.length_cons] at h ⊢
  have ih:=QdV p l (n+1) (xs.setIfInBounds (p+n) v) (by rw [Array.size_setIfInBounds]; (first | lia | omega))
  have e:lay xs p (v::l) n=lay (xs.setIfInBounds (p+n) v) p l (n+1):=rfl
  rw [e,ih,Array.toList_setIfInBounds]
  have hl:p+n<xs.toList.length:=by rw [Array.length_toList]; (clear ih e; (first | lia | omega))
  rw [show p+(n+1)=p+n+1 by(clear h ih e hl; (first | lia | omega)),List.take_succ_eq_append_getElem (by rw [List.length_set]; exact hl),List.getElem_set_self,List.take_set_of_le (Nat.le_refl _),
   List.drop_set_of_lt (by(clear h ih e hl; (first | lia | omega))),List.append_assoc,show p+n+1+l.length=p+n+(l.length+1) by(clear h ih e hl; (first | lia | omega))]
  rfl
noncomputable def Kl (l:List Keyed) (i:Nat):Int:=match l[i]? with
 | some p=>nk p
 | none=>0
theorem K_l (xs:Array Keyed) (i:Nat):K xs i=Kl xs.toList i:=by
 unfold K Kl
 rw [Array.getElem?_toList]
 cases xs[i]? <;> rfl
theorem Qkb {l:List Keyed} {i:Nat} (h:i<l.length):∃ x∈l,Kl l i=nk x:=⟨l[i],List.getElem_mem h,by unfold Kl; rw [List.getElem?_eq_getElem h]⟩
theorem Qkc {l:List Keyed} (h:Srt l) {i j:Nat} (hij:i≤j) (hj:j<l.length):Kl l i≤Kl l j:=by
 unfold Kl
 rw [List.getElem?_eq_getElem hj,List.getElem?_eq_getElem (Nat.lt_of_le_of_lt hij hj)]
 by_cases e:i=j
 ·subst e; exact Int.le_refl _
 ·exact List.pairwise_iff_getElem.mp h i j _ hj (by(clear hj; (first | lia | omega)))
noncomputable def SOn (xs:Array Keyed) (lo hi:Nat):Prop:=∀ i j,lo≤i->i≤j->j<hi->K xs i≤K xs j
theorem Qkd {xs out:Array Keyed} {u p q v e:Nat} (hup:u≤p) (hpv:p<v) (hvq:v≤q) (hqe:q≤e) (he:e≤xs.size)
  (s1:SOn xs u v) (s2:SOn xs v e) (c1:∀ m,u≤m->m<p->K xs m≤K xs v) (c2:∀ m,q≤m->m<e->K xs (v - 1)≤K xs m)
  (hm:Mrg out (xs.extract p v) (xs.extract v q)) :
  (lay xs p out.toList 0).toList.Perm xs.toList∧SOn (lay xs p out.toList 0) u e∧∀ m,m<p∨q≤m->K (lay xs p out.toList 0) m=K xs m:=by
 have hlen:out.toList.length=q - p:=by
  have:=hm.1.length_eq
  rw [List.length_append,Jz,Jz,List.length_take,List.length_take,List.length_drop,List.length_drop,Array.length_toList (xs:=xs)] at this
  (clear hup hm; (first | lia | omega))
 have hL:=QdV p out.toList 0 xs (by(clear hup hm; (first | lia | omega)))
 rw [Nat.add_zero,hlen,show p+(q - p)=q by(clear hup hqe he hm hlen hL; (first | lia | omega))] at hL
 have hxy:xs.toList=xs.toList.take p++((xs.extract p v).toList++(xs.extract v q).toList++xs.toList.drop q):=by
  rw [Jz,Jz]
  conv=>lhs; rw [← List.take_append_drop p xs.toList]
  congr 1
  conv=>lhs; rw [← List.take_append_drop (q - p) (xs.toList.drop p),List.drop_drop,show p+(q - p)=q by(clear hup hqe he hm hlen hL; (first | lia | omega))]
  congr 1
  rw [show q - p=(v - p)+(q - v) by(clear hup hqe he hm hlen hL; (first | lia | omega)),List.take_add,List.drop_drop,show p+(v - p)=v by(clear hup hvq hqe he hm hlen hL; (first | lia | omega))]
 have ltp:(xs.toList.take p).length=p:=by rw [List.length_take,Array.length_toList]; (clear hup hm hlen hL hxy; (first | lia | omega))
 -- the cells
 have kIn:∀ m,p≤m->m<q->K (lay xs p out.toList 0) m=Kl out.toList (m - p):=fun m h1 h2=>by
  rw [K_l,hL]
  unfold Kl
  rw [List.getElem?_append_right (by(clear hup hpv hvq hqe he hm hlen hL hxy h2; (first | lia | omega))),ltp,List.getElem?_append_left (by(clear hup hqe he hm hL hxy; (first | lia | omega)))]
 have kOut:∀ m,m<p∨q≤m->K (lay xs p out.toList 0) m=K xs m:=fun m h=>by
  rw [K_l,hL,K_l]
  unfold Kl
  rcases h with h | h
  ·rw [List.getElem?_append_left (by(clear hup hpv hvq hqe he hm hlen hL hxy; (first | lia | omega))),List.getElem?_take_of_lt h]
  ·rw [List.getElem?_append_right (by(clear hup hqe he hm hlen hL hxy; (first | lia | omega))),ltp,List.getElem?_append_right (by(clear hup hqe he hm hL hxy; (first | lia | omega))),hlen,List.getElem?_drop,show q+(m - p - (q - p))=m by(clear hup hqe he hm hlen hL hxy; (first | lia | omega))]
 have kMem:∀ m,p≤m->m<q->∃ n,p≤n∧n<q∧K (lay xs p out.toList 0) m=K xs n:=fun m h1 h2=>by
  rw [kIn m h1 h2]
  obtain⟨x,hx,e⟩:=Qkb (l:=out.toList) (i:=m - p) (by(clear hup hqe he hm hL hxy; (first | lia | omega)))
  rcases List.mem_append.mp (hm.1.mem_iff.mp hx) with hx | hx
  ·rw [Jz] at hx
   obtain⟨n,h3,h4,_,e'⟩:=Y3 hx
   exact⟨n,h3,by(clear hup hqe he hm hlen hL hxy h1 h2 e h3 e'; (first | lia | omega)),e.trans e'⟩
  ·rw [Jz] at hx
   obtain⟨n,h3,h4,_,e'⟩:=Y3 hx
   exact⟨n,by(clear hup hvq hqe he hm hlen hL hxy h1 h2 e h4 e'; (first | lia | omega)),by(clear hup hpv hqe he hm hlen hL hxy ltp h1 h2 e h3 e'; (first | lia | omega)),e.trans e'⟩
 refine⟨?_,?_,kOut⟩
 ·rw [hL]
  conv=>rhs; rw [hxy]
  exact List.Perm.append_left _ (List.Perm.append_right _ hm.1)
 ·intro i j hi hij hj
  by_cases a1:i<p
  ·rw [kOut i (.inl a1)]
   by_cases b1:j<p
   ·rw [kOut j (.inl b1)]; exact s1 i j hi hij (by(clear hup hvq hqe he hm hlen hL hxy hi hij hj a1; (first | lia | omega)))
   by_cases b2:j<q
   ·obtain⟨n,h3,h4,en⟩:=kMem j (by(clear hup hpv hvq hqe he hm hlen hL hxy hi hij hj a1 b2; (first | lia | omega))) b2
    rw [en]
    by_cases h5:n<v
    ·exact s1 i n hi (by(clear hup hpv hvq hqe he hm hlen hL hxy hi hij hj b1 b2 h4 en h5; (first | lia | omega))) h5
    ·exact Int.le_trans (c1 i hi a1) (s2 v n (Nat.le_refl _) (by(clear hup hpv hvq hqe he hm hlen hL hxy ltp hi hij hj a1 b1 b2 h3 h4 en; (first | lia | omega))) (by(clear hup hpv hvq he hm hlen hL hxy ltp hi hij hj a1 b1 b2 h3 en h5; (first | lia | omega))))
   ·rw [kOut j (.inr (by(clear hup hpv hvq hqe he hm hlen hL hxy ltp hi hij hj a1 b1; (first | lia | omega))))]
    exact Int.le_trans (c1 i hi a1) (s2 v j (Nat.le_refl _) (by(clear hup hpv hqe he hm hlen hL hxy ltp hi hij hj a1 b1; (first | lia | omega))) hj)
  by_cases a2:i<q
  ·by_cases b2:j<q
   ·rw [kIn i (by(clear hup hpv hvq hqe he hm hlen hL hxy hi hij hj a2 b2; (first | lia | omega))) a2,kIn j (by(clear hup hpv hvq hqe he hm hlen hL hxy hi hj a2 b2; (first | lia | omega))) b2]
    exact Qkc hm.2 (by(clear hup hpv hvq hqe he hm hlen hL hxy hi hj a2 b2; (first | lia | omega))) (by(clear hup hqe he hm hL hxy hi hj a2; (first | lia | omega)))
   ·obtain⟨n,h3,h4,en⟩:=kMem i (by(clear hup hpv hvq hqe he hm hlen hL hxy hi hij hj a2 b2; (first | lia | omega))) a2
    rw [en,kOut j (.inr (by(clear hup hpv hvq hqe he hm hlen hL hxy ltp hi hij hj a1 a2 h3 h4 en; (first | lia | omega))))]
    by_cases h5:n<v
    ·exact Int.le_trans (s1 n (v - 1) (by(clear hpv hvq hqe he hm hlen hL hxy hi hij hj a1 a2 b2 h4 en h5; (first | lia | omega))) (by(clear hup hpv hvq hqe he hm hlen hL hxy ltp hi hij hj a1 a2 b2 h3 h4 en; (first | lia | omega))) (by(clear hup hpv hvq hqe he hm hlen hL hxy ltp hi hij hj a1 a2 b2 h3 h4 en; (first | lia | omega)))) (c2 j (by(clear hup hpv hvq hqe he hm hlen hL hxy ltp hi hij hj a1 a2 h3 h4 en h5; (first | lia | omega))) hj)
    ·exact s2 n j (by(clear hup hpv hvq hqe he hm hlen hL hxy ltp hi hij hj a1 a2 b2 h3 h4 en; (first | lia | omega))) (by(clear hup hpv hvq hqe he hm hlen hL hxy ltp hi hij hj a1 a2 h3 en h5; (first | lia | omega))) hj
  ·rw [kOut i (.inr (by(clear hup hpv hvq hqe he hm hlen hL hxy ltp hi hij hj a1; (first | lia | omega)))),kOut j (.inr (by(clear hup hpv hvq hqe he hm hlen hL hxy ltp hi hj a1; (first | lia | omega))))]
   exact s2 i j (by(clear hup hpv hqe he hm hlen hL hxy ltp hi hij hj a1; (first | lia | omega))) hij hj
end SO
end
section
namespace SO
open PySem PyProof PyProof.Rows
section
variable {prog:Program} {w:World} {A:Around} {E:Value->Shared->Prop} {s:Shared}
theorem Qke {σ:Type} {M:Model} {x:σ} {Q:PUnit->σ->Prop} {st:σ} (h:Q ⟨⟩ x):wpS M A E s (set x:StateT σ Sem PUnit) Q st:=by
 unfold wpS; rw [StateT.run_set]; exact wpAny_pure ⟨rfl,h⟩
theorem Qey {xs:Array Keyed} {p q i:Nat} (hq:q≤xs.size) (hi:p+i<q):K (xs.extract p q) i=K xs (p+i) :=
 K_congr (by rw [Array.getElem?_extract,if_pos (by(first | lia | omega))])
theorem QbY {xs:Array Keyed} {p q:Nat} (hq:q≤xs.size):(xs.extract p q).size=q - p:=by
 rw [Array.size_extract]; (first | lia | omega)
theorem Qhz {xs:Array Keyed} (h:∀ x∈xs,KI x) (p q:Nat):∀ x∈xs.extract p q,KI x:=fun x hx=>by
 have h1:=Array.mem_toList_iff.mpr hx
 rw [Jz] at h1
 exact h x (Array.mem_toList_iff.mp (List.mem_of_mem_drop (List.mem_of_mem_take h1)))
theorem QdW {xs:Array Keyed} {p q:Nat} (hq:q≤xs.size) (h:SOn xs p q):SortedTo (xs.extract p q) (xs.extract p q).size:=fun i j hij hj=>by
 rw [QbY hq] at hj
 rw [Qey hq (by(clear hq; (first | lia | omega))),Qey hq (by(clear hq; (first | lia | omega)))]
 exact h _ _ (by(clear hq hij hj; (first | lia | omega))) (by(clear hq hj; (first | lia | omega))) (by(clear hq; (first | lia | omega)))
theorem Qkf {st:SortSt} {i u m pw v n pw2:Nat} {Q:Bool->SortSt->Prop} (hk:kindOf st=oneType') (hf:failedOf st=none) (ki:∀ x∈arrOf st,KI x)
  (p1:(pendingOf st)[i]?=some (u,m,pw)) (p2:(pendingOf st)[i+1]?=some (v,n,pw2)) (hv:v=u+m) (hm:0<m) (hn:0<n) (he:v+n≤(arrOf st).size)
  (s1:SOn (arrOf st) u v) (s2:SOn (arrOf st) v (v+n))
  (h:∀ st',kindOf st'=oneType'->failedOf st'=none->pendingOf st'=((pendingOf st).setIfInBounds i (u,m+n,pw)).eraseIdxIfInBounds (i+1) ->
   (arrOf st').toList.Perm (arrOf st).toList->SOn (arrOf st') u (v+n)->(∀ k,k<u∨v+n≤k->K (arrOf st') k=K (arrOf st) k)->Q true st') :
  wpS (model prog w) A E s (mergeAt' i) Q st:=by
 subst hv
 rw [Qka]
 refine wpS_bind (wpS_get ?_)
 rw [p1,p2]
 dsimp only
 refine wpS_bind (Qke ?_)
 have hv':u+m<(arrOf st).size:=by(clear hk hf p1 hm p2; (first | lia | omega))
 refine wpS_bind (QR hv' (wpS_bind ?_))
 refine JP hk (ki _ (Array.getElem_mem hv')) ki (by(clear hk hf p1 hm hn p2 he; (first | lia | omega))) hm (fun i j h1 h2=>s1 _ _ (by(clear hk hf p1 hm hn p2 he hv' h1 h2; (first | lia | omega))) (by(clear hk hf p1 hm hn p2 he hv' h2; (first | lia | omega))) (by(clear hk hf p1 hm hn p2 he hv' h1; (first | lia | omega)))) fun k hkm pk qk=>?_
 rw [Yb hv'] at pk qk
 simp only [LK_f] at pk qk
 dsimp only
 have P:∀ x,u≤x->x<u+k->K (arrOf st) x≤K (arrOf st) (u+m):=fun x h1 h2=>by
  have:=of_decide_eq_true (pk (x - u) (by(clear hk hf p1 hm hn p2 he hv' hkm; (first | lia | omega))))
  rwa [show u+(x - u)=x by(clear hk hf p1 hm hn p2 he hv' hkm h2 this; (first | lia | omega))] at this
 -- nothing to do: sorted as it stands
 have asis:(∀ x y,u≤x->x<u+m->u+m≤y->y<u+m+n->K (arrOf st) x≤K (arrOf st) y)->SOn (arrOf st) u (u+m+n):=fun c x y h1 h2 h3=>by
  by_cases hy:y<u+m
  ·exact s1 x y h1 h2 hy
  ·by_cases hx:x<u+m
   ·exact c x y h1 hx (by(clear hk hf p1 hm hn p2 he hv' hkm h1 h2 h3 hx; (first | lia | omega))) h3
   ·exact s2 x y (by(clear hk hf p1 hm hn p2 he hv' hkm h1 h2 h3 hy; (first | lia | omega))) h2 h3
 by_cases e1:m - k=0
 ·refine Qy (QZ e1) ?_
  exact wpS_pure (h _ hk hf rfl (List.Perm.refl _) (asis fun x y h1 h2 h3 h4=>Int.le_trans (P x h1 (by(clear hk hf p1 hm hn p2 he hv' h1 h3 h4; (first | lia | omega)))) (s2 _ y (Nat.le_refl _) h3 h4)) fun _ _=>rfl)
 refine Qz (Zo e1) ?_
 have hl:u+k+(m - k) - 1<(arrOf st).size:=by(clear hk hf p1 hn p2 he e1; (first | lia | omega))
 refine wpS_bind (QR hl (wpS_bind ?_))
 refine JP hk (ki _ (Array.getElem_mem hl)) ki (by(clear hk hf p1 hm hn p2 hv' hkm e1 hl; (first | lia | omega))) (by(clear hk hf p1 hm p2 he hv' hkm e1 hl; (first | lia | omega))) (fun i j h1 h2=>s2 _ _ (by(clear hk hf p1 hm hn p2 he hv' hkm e1 hl h1 h2; (first | lia | omega))) (by(clear hk hf p1 hm hn p2 he hv' hkm e1 hl h2; (first | lia | omega))) (by(clear hk hf p1 hm hn p2 he hv' hkm e1 hl h1; (first | lia | omega)))) fun n2 hn2 rk tk=>?_
 rw [Yb hl] at rk tk
 simp only [LK_t,show u+k+(m - k) - 1=u+m - 1 by(clear hk hf p1 hn p2 he hv' e1 hl hn2; (first | lia | omega))] at rk tk
 dsimp only
 have T:∀ y,u+m+n2≤y->y<u+m+n->K (arrOf st) (u+m - 1)≤K (arrOf st) y:=fun y h1 h2=>by
  have:=Int.not_lt.mp (of_decide_eq_false (tk (y - (u+m)) (by(clear hk hf p1 hm hn p2 he hv' hkm e1 hl hn2 h2; (first | lia | omega))) (by(clear hk hf p1 hm hn p2 he hv' hkm e1 hl hn2; (first | lia | omega)))))
  rwa [show u+m+(y - (u+m))=y by(clear hk hf p1 hm hn p2 he hv' hkm e1 hl hn2 h2 this; (first | lia | omega))] at this
 by_cases e2:n2=0
 ·refine Qy (QZ e2) ?_
  exact wpS_pure (h _ hk hf rfl (List.Perm.refl _) (asis fun x y h1 h2 h3 h4=>Int.le_trans (s1 x (u+m - 1) h1 (by(clear hk hf p1 hm hn p2 he hv' hkm e1 hl hn2 e2 h1 h3 h4; (first | lia | omega))) (by(clear hk hf p1 hm hn p2 he hv' hkm e1 hl hn2 e2 h1 h3 h4; (first | lia | omega)))) (T y (by(clear hk hf p1 hm hn p2 he hv' hkm e1 hl hn2 h1 h2 h4; (first | lia | omega))) h4)) fun _ _=>rfl)
 refine Qz (Zo e2) ?_
 have z1:u+m≤(arrOf st).size:=by(clear hk hf p1 hm hn p2 he hkm e1 hl hn2 e2; (first | lia | omega))
 have z2:u+m+n2≤(arrOf st).size:=by(clear hk hf p1 hm hn p2 hv' hkm e1 hl e2 z1; (first | lia | omega))
 have S1:=QbY (p:=u+k) z1
 have S2:=QbY (p:=u+m) z2
 have hb:K ((arrOf st).extract (u+m) (u+m+n2)) 0≤K ((arrOf st).extract (u+k) (u+m)) 0:=by
  rw [Qey z2 (by(clear hk hf p1 hm hn p2 he hv' e1 hl hn2 z1 z2 S1 S2; (first | lia | omega))),Qey z1 (by(clear hk hf p1 hn p2 he hv' hl hn2 z1 z2 S1; (first | lia | omega)))]
  exact Int.le_of_lt (Int.not_le.mp (of_decide_eq_false (qk k (Nat.le_refl _) (by(clear hk hf p1 hn p2 he hv' hl hn2 z1 z2 S1; (first | lia | omega))))))
 have hc:∀ x,x<((arrOf st).extract (u+m) (u+m+n2)).size->K ((arrOf st).extract (u+m) (u+m+n2)) x≤K ((arrOf st).extract (u+k) (u+m)) (((arrOf st).extract (u+k) (u+m)).size - 1):=fun x hx=>by
  rw [S2] at hx
  rw [S1,Qey z2 (by(clear hk hf p1 hm hn p2 he hv' hkm e1 hl hn2 e2 z1 z2 S1 S2 hb; (first | lia | omega))),Qey z1 (by(clear hk hf p1 hn p2 he hv' hl hn2 z1 z2 S1 hb hx; (first | lia | omega))),show u+k+(u+m - (u+k) - 1)=u+m - 1 by(clear hk hf p1 hn p2 he hv' hl hn2 z1 z2 S1 hb hx; (first | lia | omega))]
  exact Int.le_of_lt (of_decide_eq_true (rk x (by(clear hk hf p1 hm hn p2 he hv' hkm e1 hl hn2 e2 z1 z2 S1 S2 hb; (first | lia | omega)))))
 have done:∀ out st',Alike (setPending st (((pendingOf st).setIfInBounds i (u,m+n,pw)).eraseIdxIfInBounds (i+1))) st'->Mrg out ((arrOf st).extract (u+k) (u+m)) ((arrOf st).extract (u+m) (u+m+n2)) ->
   wpS (model prog w) A E s (do
    modify fun z=>setArr z (lay (arrOf z) (u+k) out.toList 0)
    return (failedOf (← get)).isNone) Q st':=by
  intro out st' al hM
  refine wpS_bind (wpS_modify (wpS_bind (wpS_get ?_)))
  have ea:arrOf st'=arrOf st:=al.2.1
  have ef:failedOf st'=none:=al.2.2.2.trans hf
  have L:=Qkd (xs:=arrOf st) (out:=out) (u:=u) (p:=u+k) (q:=u+m+n2) (v:=u+m) (e:=u+m+n) (by(clear hk hf p1 hm hn p2 he hv' hkm e1 hl hn2 e2 z1 z2 S1 S2 hb hM ea ef; (first | lia | omega))) (by(clear hk hf p1 hn p2 he hv' hl hn2 z1 z2 S1 hb hM ea ef; (first | lia | omega))) (by(clear hk hf p1 hm hn p2 he hv' hkm e1 hl hn2 e2 z1 z2 S1 S2 hb hM ea ef; (first | lia | omega))) (by(clear hk hf p1 hm hn p2 he hv' hkm e1 hl e2 z1 z2 S1 S2 hb hM ea ef; (first | lia | omega))) he s1 s2 P T hM
  rw [← ea] at L
  show wpS _ _ _ _ (pure (failedOf st').isNone) _ _
  rw [ef]
  exact wpS_pure (h _ (al.1.trans hk) ef al.2.2.1 (by rw [← ea]; exact L.1) L.2.1 fun x hx=>by rw [← ea]; exact L.2.2 x (by(clear hk hf p1 hm hn p2 he hv' hkm e1 hl e2 z1 z2 S1 S2 hb hM ea ef L; (first | lia | omega))))
 have T2:Two ((arrOf st).extract (u+k) (u+m)) ((arrOf st).extract (u+m) (u+m+n2)) :=
  ⟨Qhz ki _ _,Qhz ki _ _,QdW z1 fun x y h1 h2 h3=>s1 x y (Nat.le_of_add_right_le h1) h2 h3,QdW z2 fun x y h1 h2 h3=>s2 x y h1 h2 (Nat.lt_of_lt_of_le h3 (Nat.add_le_add_left hn2 _)),hb,hc⟩
 have d1:0<((arrOf st).extract (u+k) (u+m)).size:=by(clear hk hf p1 hn p2 he hv' hl hn2 z1 z2 hb; (first | lia | omega))
 have d2:0<((arrOf st).extract (u+m) (u+m+n2)).size:=by(clear hk hf p1 hm hn p2 he hv' e1 hl hn2 z1 z2 S1 hb d1; (first | lia | omega))
 by_cases e3:m - k≤n2
 ·exact Qy e3 (wpS_bind <| Qj5 (st:=setPending st (((pendingOf st).setIfInBounds i (u,m+n,pw)).eraseIdxIfInBounds (i+1))) T2 hk d1 d2 done)
 ·exact Qz e3 (wpS_bind <| Qj9 (st:=setPending st (((pendingOf st).setIfInBounds i (u,m+n,pw)).eraseIdxIfInBounds (i+1))) T2 hk d1 d2 done)
end
end SO
end
section
namespace SO
open PySem PyProof PyProof.Rows
structure Chg (st st':SortSt) (lo hi:Nat):Prop where
 kind:kindOf st'=kindOf st
 failed:failedOf st'=failedOf st
 pend:pendingOf st'=pendingOf st
 perm:(arrOf st').toList.Perm (arrOf st).toList
 out:∀ k,k<lo∨hi≤k->K (arrOf st') k=K (arrOf st) k
theorem Chg.refl (st:SortSt) (lo hi:Nat):Chg st st lo hi:=⟨rfl,rfl,rfl,List.Perm.refl _,fun _ _=>rfl⟩
theorem Chg.trans {st st' st'':SortSt} {lo hi:Nat} (a:Chg st st' lo hi) (b:Chg st' st'' lo hi):Chg st st'' lo hi :=
 ⟨b.kind.trans a.kind,b.failed.trans a.failed,b.pend.trans a.pend,b.perm.trans a.perm,fun k h=>(b.out k h).trans (a.out k h)⟩
theorem Chg.size {st st':SortSt} {lo hi:Nat} (a:Chg st st' lo hi):(arrOf st').size=(arrOf st).size:=by
 have:=a.perm.length_eq
 rwa [Array.length_toList,Array.length_toList] at this
theorem Chg.ki {st st':SortSt} {lo hi:Nat} (a:Chg st st' lo hi) (h:∀ x∈arrOf st,KI x):∀ x∈arrOf st',KI x :=
 fun x hx=>h x (Array.mem_toList_iff.mp (a.perm.mem_iff.mp (Array.mem_toList_iff.mpr hx)))
theorem Chg.wide {st st':SortSt} {lo hi lo' hi':Nat} (a:Chg st st' lo hi) (h1:lo'≤lo) (h2:hi≤hi'):Chg st st' lo' hi' :=
 ⟨a.kind,a.failed,a.pend,a.perm,fun k h=>a.out k (by(first | lia | omega))⟩
noncomputable def NOn (xs:Array Keyed) (lo hi:Nat):Prop:=∀ i j,lo≤i->i≤j->j<hi->K xs j≤K xs i
theorem Y4 {st:SortSt} {i j:Nat} (hj:j≤(arrOf st).size):Chg st (setArr st (mirror (arrOf st) i j ((j - i) / 2))) i j :=
 ⟨rfl,rfl,rfl,Array.perm_iff_toList_perm.mp (mirror_perm _ _ _ _),fun k h=>by
  show K (mirror _ _ _ _) k=_
  rw [K_mirror hj,if_neg (by(clear hj; (first | lia | omega)))]⟩
section
variable {prog:Program} {w:World} {A:Around} {E:Value->Shared->Prop} {s:Shared}
theorem QaJ {st:SortSt} {i j:Nat} {Q:Option Bool->SortSt->Prop} (hk:kindOf st=oneType') (ki:∀ x∈arrOf st,KI x) (hi:i<(arrOf st).size) (hj:j<(arrOf st).size)
  (h:Q (some (decide (K (arrOf st) i<K (arrOf st) j))) st):wpS (model prog w) A E s (ltAt' i j) Q st:=by
 rw [ltAt'_eq]
 refine wpS_bind (wpS_get ?_)
 refine wpS_bind (QR hi (wpS_bind (QR hj (QfF hk (ki _ (Array.getElem_mem hi)) (ki _ (Array.getElem_mem hj)) ?_))))
 rw [Yb hi,Yb hj]
 exact h
theorem QkZ (lo n ok:Nat):binarySort' lo n ok=(do
 for k in [max ok 1:n] do
  let mut l:=0
  let mut r:=k
  for _ in [0:k] do
   if l≥r then break
   let some y ← ltAt' (lo+k) (lo+(l+r) / 2) | return false
   if y then r:=(l+r) / 2 else l:=(l+r) / 2+1
  moveDown' (lo+k) (lo+l)
 return true):=by rfl
theorem Qk0 {st:SortSt} {lo n ok:Nat} {Q:Bool->SortSt->Prop} (hk:kindOf st=oneType') (ki:∀ x∈arrOf st,KI x) (hn:lo+n≤(arrOf st).size) (hok:ok≤n)
  (so:SOn (arrOf st) lo (lo+ok)) (h:∀ st',Chg st st' lo (lo+n)->SOn (arrOf st') lo (lo+n)->Q true st'):wpS (model prog w) A E s (binarySort' lo n ok) Q st:=by
 rw [QkZ]
 refine wpS_bind (wpS_mono (wpS_forRange (I:=fun k c st'=>c=(none,())∧Chg st st' lo (lo+n)∧SOn (arrOf st') lo (lo+min k n))
  (Q:=fun c st'=>c=(none,())∧Chg st st' lo (lo+n)∧SOn (arrOf st') lo (lo+n)) ?step ?fin ⟨rfl,.refl _ _ _,?init⟩) ?post)
 case post =>
  rintro c st' ⟨rfl,c',s'⟩
  exact wpS_pure (h st' c' s')
 case init =>
  intro i j h1 h2 h3
  by_cases e:i=j
  ·subst e; exact Int.le_refl _
  ·exact so i j h1 h2 (by(clear hk hn; (first | lia | omega)))
 case fin =>
  rintro c st' ⟨rfl,c',s'⟩
  exact⟨rfl,c',by rwa [show min (max (max ok 1) n) n=n by(clear hk hn hok; (first | lia | omega))] at s'⟩
 case step =>
  rintro k c st' hak hkn ⟨rfl,C,S⟩
  rw [show min k n=k by(clear hk hn hok hak; (first | lia | omega))] at S
  have hz:lo+k<(arrOf st').size:=by rw [C.size]; (clear hk hok hak; (first | lia | omega))
  refine wpS_bind (wpS_mono (wpS_forRange (I:=fun x c st''=>st''=st'∧∃ l r,c=(none,l,r)∧l≤r∧r≤k∧r - l≤k - x ∧
    (∀ i,i<l->K (arrOf st') (lo+i)≤K (arrOf st') (lo+k))∧(∀ i,r≤i->i<k->K (arrOf st') (lo+k)<K (arrOf st') (lo+i)))
   (Q:=fun c st''=>st''=st'∧∃ l r,c=(none,l,r)∧l≤k ∧
    (∀ i,i<l->K (arrOf st') (lo+i)≤K (arrOf st') (lo+k))∧(∀ i,l≤i->i<k->K (arrOf st') (lo+k)<K (arrOf st') (lo+i))) ?s1 ?f1
    ⟨rfl,0,k,rfl,by(clear hk hn hok hak hkn hz; (first | lia | omega)),by(clear hk hn hok hak hkn hz; (first | lia | omega)),by(clear hk hn hok hak hkn hz; (first | lia | omega)),fun i hi=>by(clear hk hn hok hak hkn hz; (first | lia | omega)),fun i h1 h2=>by(clear hk hn hok hak hkn hz; (first | lia | omega))⟩) ?p1)
  case f1 =>
   rintro c st'' ⟨rfl,l,r,rfl,a1,a2,a3,a4,a5⟩
   have e:l=r:=by(clear hk hn hok hak hkn hz a2; (first | lia | omega))
   subst e
   exact⟨rfl,l,l,rfl,a2,a4,a5⟩
  case s1 =>
   rintro x c st'' _ hx ⟨rfl,l,r,rfl,a1,a2,a3,a4,a5⟩
   dsimp only
   by_cases hge:l≥r
   ·refine Qy hge ?_
    have e:l=r:=by(clear hk hn hok hak hkn hx hz a2 a3; (first | lia | omega))
    subst e
    exact wpS_pure ⟨rfl,l,l,rfl,a2,a4,a5⟩
   ·refine Qz hge ?_
    refine wpS_bind (QaJ (C.kind.trans hk) (C.ki ki) hz (by(clear hk hn hok hak hkn hx a1 a3; (first | lia | omega))) ?_)
    dsimp only
    by_cases hl:K (arrOf st'') (lo+k)<K (arrOf st'') (lo+(l+r) / 2)
    ·refine Qy (decide_eq_true hl) ?_
     exact wpS_pure ⟨rfl,l,(l+r) / 2,rfl,by(clear hk hn hok hak hkn hx hz a1 a2 a3 hl; (first | lia | omega)),by(clear hk hn hok hak hkn hx hz a1 a3 hl; (first | lia | omega)),by(clear hk hn hok hak hkn hz a1 a2 hl; (first | lia | omega)),a4,fun i h1 h2=>Int.lt_of_lt_of_le hl (S _ _ (by(clear hk hn hok hak hkn hx hz a1 a2 a3 hl h1 h2; (first | lia | omega))) (by(clear hk hn hok hak hkn hx hz a1 a2 a3 hge hl h2; (first | lia | omega))) (by(clear hk hn hok hak hkn hx hz a1 a2 a3 hge hl h1; (first | lia | omega))))⟩
    ·refine Qz (QaI hl) ?_
     exact wpS_pure ⟨rfl,(l+r) / 2+1,r,rfl,by(clear hk hn hok hak hkn hx hz a1 a2 a3 hl; (first | lia | omega)),by(clear hk hn hok hak hkn hx hz a1 a3 hge hl; (first | lia | omega)),by(clear hk hn hok hak hkn hz a1 a2 hl; (first | lia | omega)),fun i h1=>Int.le_trans (S _ (lo+(l+r) / 2) (by(clear hk hn hok hak hkn hx hz a1 a2 a3 hge hl h1; (first | lia | omega))) (by(clear hk hn hok hak hkn hx hz a1 a2 a3 hge hl; (first | lia | omega))) (by(clear hk hn hok hak hkn hx hz a1 a3 hl h1; (first | lia | omega)))) (Int.not_lt.mp hl),a5⟩
  case p1 =>
   rintro c st'' ⟨rfl,l,r,rfl,hl,a4,a5⟩
   dsimp only
   rw [moveDown'_eq]
   have kb:=fun m=>K_bubble (xs:=arrOf st'') (src:=lo+k) (d:=lo+k - (lo+l)) hz (by(clear hk hn hok hak hkn hz; (first | lia | omega))) m
   rw [show lo+k - (lo+k - (lo+l))=lo+l by(clear hk hn hok hak hkn hz; (first | lia | omega))] at kb
   refine wpS_bind (wpS_modify (wpS_pure ⟨rfl,C.trans ⟨rfl,rfl,rfl,Array.perm_iff_toList_perm.mp (bubble_perm _ _ _),fun m hm=>?_⟩,?_⟩))
   ·show K (bubble _ _ _) m=_
    rw [kb,if_neg (by(clear hk hn hok hak hz; (first | lia | omega))),if_neg (by(clear hk hn hok hak hz hl; (first | lia | omega)))]
   ·rw [show min (k+1) n=k+1 by(clear hk hn hok hak hz hl; (first | lia | omega))]
    intro i j h1 h2 h3
    show K (bubble _ _ _) i≤K (bubble _ _ _) j
    have lo4:∀ m,lo≤m->m<lo+l->K (arrOf st'') m≤K (arrOf st'') (lo+k):=fun m q1 q2=>by
     have:=a4 (m - lo) (by(clear hk hn hok hak hkn hz hl h1 h2 h3; (first | lia | omega)))
     rwa [show lo+(m - lo)=m by(clear hk hn hok hak hkn hz hl h1 h2 h3 q2 this; (first | lia | omega))] at this
    have hi5:∀ m,lo+l≤m->m<lo+k->K (arrOf st'') (lo+k)≤K (arrOf st'') m:=fun m q1 q2=>by
     have:=a5 (m - lo) (by(clear hk hn hok hak hkn hz hl h1 h2 h3 q2; (first | lia | omega))) (by(clear hk hn hok hak hkn hz hl h1 h2 h3; (first | lia | omega)))
     rw [show lo+(m - lo)=m by(clear hk hn hok hak hkn hz hl h1 h2 h3 q2 this; (first | lia | omega))] at this
     exact Int.le_of_lt this
    rw [kb,kb]
    by_cases i1:i=lo+l
    ·rw [if_pos i1]
     by_cases j1:j=lo+l
     ·rw [if_pos j1]; exact Int.le_refl _
     ·rw [if_neg j1,if_pos (by(clear hk hn hok hak hkn hz hl h1; (first | lia | omega)))]; exact hi5 _ (by(clear hk hn hok hak hkn hz hl h1 h3; (first | lia | omega))) (by(clear hk hn hok hak hkn hz hl h1; (first | lia | omega)))
    ·rw [if_neg i1]
     by_cases i2:lo+l<i∧i≤lo+k
     ·rw [if_pos i2,if_neg (by(clear hk hn hok hak hkn hz hl h1 h3 i1; (first | lia | omega))),if_pos (by(clear hk hn hok hak hkn hz hl h1 i1; (first | lia | omega)))]
      exact S _ _ (by(clear hk hn hok hak hkn hz hl h2 h3 i1; (first | lia | omega))) (by(clear hk hn hok hak hkn hz hl h1 h3 i1; (first | lia | omega))) (by(clear hk hn hok hak hkn hz hl h1 i1; (first | lia | omega)))
     ·rw [if_neg i2]
      by_cases j1:j=lo+l
      ·rw [if_pos j1]; exact lo4 _ h1 (by(clear hk hn hok hak hkn hz hl h1; (first | lia | omega)))
      ·rw [if_neg j1]
       by_cases j2:lo+l<j∧j≤lo+k
       ·rw [if_pos j2]; exact S _ _ h1 (by(clear hk hn hok hak hkn hz hl h1 i1; (first | lia | omega))) (by(clear hk hn hok hak hkn hz hl h1 h2 i1 i2 j1; (first | lia | omega)))
       ·rw [if_neg j2]; exact S _ _ h1 h2 (by(clear hk hn hok hak hkn hz h1 h2 i1 i2; (first | lia | omega)))
end
end SO
end
section
namespace SO
open PySem PyProof PyProof.Rows
noncomputable def upL (lo b nr:Nat):StateT SortSt Sem (Option (Option Nat)×Nat) :=
 forIn [b:nr] ((none,b):Option (Option Nat)×Nat) fun _ c=>do
  let z ← ltAt' (lo+c.snd) (lo+c.snd - 1)
  match z with
  | some y=>if y=true then pure (ForInStep.done (none,c.snd)) else pure (ForInStep.yield (none,c.snd+1))
  | _=>pure (ForInStep.done (some none,c.snd))
noncomputable def endP (lo n nr:Nat):StateT SortSt Sem (Option Nat):=do
 reverseSlice' lo (lo+n)
 let c ← upL lo n nr
 match c.fst with
 | some r=>pure r
 | none=>pure (some c.snd)
noncomputable def dnL (lo n nr:Nat):StateT SortSt Sem (Option (Option Nat)×Nat×Nat) :=
 forIn [n:nr] ((none,n,0):Option (Option Nat)×Nat×Nat) fun _ c=>do
  let z ← ltAt' (lo+c.snd.fst) (lo+c.snd.fst - 1)
  match z with
  | some y =>
   if y=true then
    if c.snd.snd > 0 then do
     reverseSlice' (lo+c.snd.fst - (c.snd.snd+1)) (lo+c.snd.fst)
     pure (ForInStep.yield (none,c.snd.fst+1,0))
    else pure (ForInStep.yield (none,c.snd.fst+1,0))
   else do
    let z ← ltAt' (lo+c.snd.fst - 1) (lo+c.snd.fst)
    match z with
    | some g=>if g=true then pure (ForInStep.done (none,c.snd.fst,c.snd.snd)) else pure (ForInStep.yield (none,c.snd.fst+1,c.snd.snd+1))
    | _=>pure (ForInStep.done (some none,c.snd.fst,c.snd.snd))
  | _=>pure (ForInStep.done (some none,c.snd.fst,c.snd.snd))
noncomputable def dnP (lo n nr:Nat):StateT SortSt Sem (Option Nat):=do
 liftM (rule "list.sort.descending-run")
 let c ← dnL lo (n+1) nr
 match c.fst with
 | some r=>pure r
 | none =>
  if c.snd.snd > 0 then do
   reverseSlice' (lo+c.snd.fst - (c.snd.snd+1)) (lo+c.snd.fst)
   endP lo c.snd.fst nr
  else endP lo c.snd.fst nr
theorem Qk1 (lo nr:Nat):countRun' lo nr=(do
  let c ← upL lo 1 nr
  match c.fst with
  | some r=>pure r
  | none =>
   if (c.snd == nr)=true then pure (some c.snd)
   else if c.snd > 1 then do
    let z ← ltAt' lo (lo+c.snd - 1)
    match z with
    | some y=>if y=true then pure (some c.snd) else do
      reverseSlice' lo (lo+c.snd)
      dnP lo c.snd nr
    | _=>pure none
   else dnP lo c.snd nr):=by
 rw [countRun'_eq]
 dsimp only
 unfold dnP endP dnL upL
 congr 1
 funext c
 obtain⟨r,n⟩:=c
 cases r with
 | some r=>rfl
 | none =>
  dsimp only
  split
  ·rfl
  ·split
   ·congr 1
    funext z
    cases z with
    | none=>rfl
    | some y =>
     dsimp only
     split
     ·rfl
     ·congr 1
      funext _
      congr 1; funext _; congr 1; funext c2; obtain⟨r2,n2,q2⟩:=c2; cases r2 with
      | some r2=>rfl
      | none=>(dsimp only; split; (congr 1; funext _; (congr 1; funext _; congr 1; funext c3; obtain⟨r3,n3⟩:=c3; cases r3 <;> rfl)); (congr 1; funext _; congr 1; funext c3; obtain⟨r3,n3⟩:=c3; cases r3 <;> rfl))
   ·congr 1; funext _; congr 1; funext c2; obtain⟨r2,n2,q2⟩:=c2; cases r2 with
    | some r2=>rfl
    | none=>(dsimp only; split; (congr 1; funext _; (congr 1; funext _; congr 1; funext c3; obtain⟨r3,n3⟩:=c3; cases r3 <;> rfl)); (congr 1; funext _; congr 1; funext c3; obtain⟨r3,n3⟩:=c3; cases r3 <;> rfl))
end SO
end
section
namespace SO
open PySem PyProof PyProof.Rows
section
variable {prog:Program} {w:World} {A:Around} {E:Value->Shared->Prop} {s:Shared} {st:SortSt} {lo nr:Nat}
theorem QhA {b:Nat} {Q:Option (Option Nat)×Nat->SortSt->Prop} (hk:kindOf st=oneType') (ki:∀ x∈arrOf st,KI x) (hn:lo+nr≤(arrOf st).size) (hb:1≤b) (hbn:b≤nr)
  (so:SOn (arrOf st) lo (lo+b))
  (h:∀ n,b≤n->n≤nr->SOn (arrOf st) lo (lo+n)->(n=nr∨K (arrOf st) (lo+n)<K (arrOf st) (lo+n - 1))->Q (none,n) st) :
  wpS (model prog w) A E s (upL lo b nr) Q st:=by
 unfold upL
 refine wpS_forRange (I:=fun x c st'=>st'=st∧c=(none,x)∧SOn (arrOf st) lo (lo+x)) ?step ?fin ⟨rfl,rfl,so⟩
 case fin =>
  rintro c st' ⟨rfl,rfl,s'⟩
  rw [show max b nr=nr by(clear hb hk hn; (first | lia | omega))] at s' ⊢
  exact h nr hbn (Nat.le_refl _) s' (.inl rfl)
 case step =>
  rintro x c st' h1 h2 ⟨rfl,rfl,s'⟩
  dsimp only
  refine wpS_bind (QaJ hk ki (by(clear hb hbn h1 hk; (first | lia | omega))) (by(clear hbn hk; (first | lia | omega))) ?_)
  dsimp only
  by_cases hl:K (arrOf st') (lo+x)<K (arrOf st') (lo+x - 1)
  ·refine Qy (decide_eq_true hl) ?_
   exact wpS_pure (h x h1 (by(clear hb hbn h1 hk hn hl; (first | lia | omega))) s' (.inr hl))
  ·refine Qz (QaI hl) ?_
   refine wpS_pure ⟨rfl,rfl,fun i j q1 q2 q3=>?_⟩
   by_cases e:j<lo+x
   ·exact s' i j q1 q2 e
   ·have e':j=lo+x:=by(clear hb hbn h1 h2 hk hn hl q1 q2; (first | lia | omega))
    subst e'
    by_cases e2:i=lo+x
    ·subst e2; exact Int.le_refl _
    ·exact Int.le_trans (s' i (lo+x - 1) q1 (by(clear hbn h2 hk hn hl q1 q3 e; (first | lia | omega))) (by(clear hbn h2 hk hn hl q1 q2 q3 e e2; (first | lia | omega)))) (Int.not_lt.mp hl)
theorem QfK {st0:SortSt} {n:Nat} {Q:Option Nat->SortSt->Prop} (hk:kindOf st0=oneType') (ki:∀ x∈arrOf st0,KI x) (hn:lo+nr≤(arrOf st0).size) (C:Chg st0 st lo (lo+nr))
  (h1:1≤n) (h2:n≤nr) (so:NOn (arrOf st) lo (lo+n))
  (h:∀ m st',Chg st0 st' lo (lo+nr)->1≤m->m≤nr->SOn (arrOf st') lo (lo+m)->Q (some m) st'):wpS (model prog w) A E s (endP lo n nr) Q st:=by
 unfold endP
 have hz:lo+n≤(arrOf st).size:=by rw [C.size]; (clear hk h1; (first | lia | omega))
 refine wpS_bind (wpS_reverse ?_)
 have C':Chg st0 (setArr st (mirror (arrOf st) lo (lo+n) ((lo+n - lo) / 2))) lo (lo+nr):=C.trans ((Y4 hz).wide (Nat.le_refl _) (by(clear hk hn h1 hz; (first | lia | omega))))
 refine wpS_bind (QhA (C'.kind.trans hk) (C'.ki ki) (by rw [C'.size]; exact hn) h1 h2 (fun i j q1 q2 q3=>?_) fun m q1 q2 q3 _=>wpS_pure (h m _ C' (by(clear hk hn h2 hz q2; (first | lia | omega))) q2 q3))
 show K (mirror _ _ _ _) i≤K (mirror _ _ _ _) j
 rw [K_mirror hz,K_mirror hz,if_pos (by(clear hk hn h1 h2 hz; (first | lia | omega))),if_pos (by(clear hk hn h1 h2 hz; (first | lia | omega)))]
 exact so _ _ (by(clear hk hn h1 h2 hz q1 q2; (first | lia | omega))) (by(clear hk hn h1 h2 hz q1; (first | lia | omega))) (by(clear hk hn h1 h2 hz q2; (first | lia | omega)))
theorem Qkg {st0:SortSt} {n:Nat} {Q:Option (Option Nat)×Nat×Nat->SortSt->Prop} (hk:kindOf st0=oneType') (ki:∀ x∈arrOf st0,KI x) (hn:lo+nr≤(arrOf st0).size) (C:Chg st0 st lo (lo+nr))
  (h1:1≤n) (h2:n≤nr) (so:NOn (arrOf st) lo (lo+n))
  (h:∀ m q st',Chg st0 st' lo (lo+nr)->n≤m->m≤nr->NOn (arrOf st') lo (lo+m)->q+1≤m->(∀ i,lo+m - (q+1)≤i->i<lo+m->K (arrOf st') i=K (arrOf st') (lo+m - 1))->Q (none,m,q) st') :
  wpS (model prog w) A E s (dnL lo n nr) Q st:=by
 unfold dnL
 refine wpS_forRange (I:=fun x c st'=>∃ q,c=(none,x,q)∧Chg st0 st' lo (lo+nr)∧NOn (arrOf st') lo (lo+x)∧q+1≤x ∧
   (∀ i,lo+x - (q+1)≤i->i<lo+x->K (arrOf st') i=K (arrOf st') (lo+x - 1))) ?step ?fin ⟨0,rfl,C,so,by(clear hk hn h2; (first | lia | omega)),fun i q1 q2=>by congr 1; (clear hk hn h2; (first | lia | omega))⟩
 case fin =>
  rintro c st' ⟨q,rfl,C',s',hq,he⟩
  rw [show max n nr=nr by(clear hk hn h1 hq; (first | lia | omega))] at s' hq he ⊢
  exact h nr q st' C' h2 (Nat.le_refl _) s' hq he
 case step =>
  rintro x c st' a1 a2 ⟨q,rfl,C',s',hq,he⟩
  dsimp only
  have hz:lo+x<(arrOf st').size:=by rw [C'.size]; (clear hk h1 h2 a1 hq; (first | lia | omega))
  have more:∀ xs:Array Keyed,(∀ k,K xs k=K (arrOf st') k)->K (arrOf st') (lo+x)≤K (arrOf st') (lo+x - 1)->NOn xs lo (lo+(x+1)):=by
   intro xs hx hl i j q1 q2 q3
   rw [hx,hx]
   by_cases e:j<lo+x
   ·exact s' i j q1 q2 e
   ·have e':j=lo+x:=by(clear hk hn h1 h2 a1 a2 hq hz hl q1 q2; (first | lia | omega))
    subst e'
    by_cases e2:i=lo+x
    ·subst e2; exact Int.le_refl _
    ·exact Int.le_trans hl (s' i (lo+x - 1) q1 (by(clear hk hn h1 h2 a1 a2 hq hz hl q1 q3 e; (first | lia | omega))) (by(clear hk hn h2 a2 hq hz hl q1 q2 q3 e e2; (first | lia | omega))))
  refine wpS_bind (QaJ (C'.kind.trans hk) (C'.ki ki) hz (by(clear hk hn h2 a2 hq; (first | lia | omega))) ?_)
  dsimp only
  by_cases hl:K (arrOf st') (lo+x)<K (arrOf st') (lo+x - 1)
  ·refine Qy (decide_eq_true hl) ?_
   by_cases hq0:q > 0
   ·refine Qy hq0 ?_
    refine wpS_bind (wpS_reverse (wpS_pure ⟨0,rfl,C'.trans ((Y4 (by(clear hk hn h1 h2 a1 a2 hq hl hq0; (first | lia | omega)))).wide (by(clear hk hn h1 h2 a1 a2 hz hl hq0; (first | lia | omega))) (by(clear hk hn h1 h2 a1 hq hz hl hq0; (first | lia | omega)))),more _ (fun k=>K_mirror_equal (by(clear hk hn h1 h2 a1 a2 hq hl hq0; (first | lia | omega))) he k) (Int.le_of_lt hl),by(clear hk hn h1 h2 a1 a2 hq hz hl hq0; (first | lia | omega)),fun i q1 q2=>by congr 1; (clear hk hn h2 a2 hq hz hl hq0; (first | lia | omega))⟩))
   ·refine Qz hq0 ?_
    exact wpS_pure ⟨0,rfl,C',more _ (fun _=>rfl) (Int.le_of_lt hl),by(clear hk hn h1 h2 a1 a2 hq hz hl hq0; (first | lia | omega)),fun i q1 q2=>by congr 1; (clear hk hn h2 a2 hq hz hl hq0; (first | lia | omega))⟩
  ·refine Qz (QaI hl) ?_
   refine wpS_bind (QaJ (C'.kind.trans hk) (C'.ki ki) (by(clear hk hn h2 a2 hq hl; (first | lia | omega))) hz ?_)
   dsimp only
   by_cases hg:K (arrOf st') (lo+x - 1)<K (arrOf st') (lo+x)
   ·refine Qy (decide_eq_true hg) ?_
    exact wpS_pure (h x q st' C' a1 (by(clear hk hn h1 h2 a1 hq hz hl hg; (first | lia | omega))) s' hq he)
   ·refine Qz (QaI hg) ?_
    have e:K (arrOf st') (lo+x)=K (arrOf st') (lo+x - 1):=by(clear hk hn h1 h2 a1 a2 hq hz; (first | lia | omega))
    refine wpS_pure ⟨q+1,rfl,C',more _ (fun _=>rfl) (by(clear hk hn h1 h2 a1 a2 hq hz e; (first | lia | omega))),by(clear hk hn h1 h2 a1 a2 hz hl hg e; (first | lia | omega)),fun i q1 q2=>?_⟩
    rw [show lo+(x+1) - 1=lo+x by(clear hk hn h2 a2 hq hz hl hg e q1 q2; (first | lia | omega))]
    by_cases e2:i=lo+x
    ·subst e2; rfl
    ·rw [e]; exact he i (by(clear hk hn h1 h2 a1 a2 hz hl hg e; (first | lia | omega))) (by(clear hk hn h1 h2 a1 a2 hq hz hl hg e q1; (first | lia | omega)))
theorem QhB {st0:SortSt} {n:Nat} {Q:Option Nat->SortSt->Prop} (hk:kindOf st0=oneType') (ki:∀ x∈arrOf st0,KI x) (hn:lo+nr≤(arrOf st0).size) (C:Chg st0 st lo (lo+nr))
  (h2:n+1≤nr) (so:NOn (arrOf st) lo (lo+(n+1)))
  (h:∀ m st',Chg st0 st' lo (lo+nr)->1≤m->m≤nr->SOn (arrOf st') lo (lo+m)->Q (some m) st'):wpS (model prog w) A E s (dnP lo n nr) Q st:=by
 unfold dnP
 refine wpS_bind (wpS_lift (wpAny_rule ⟨rfl,?_⟩))
 refine wpS_bind (Qkg hk ki hn C (by(clear hk hn h2; (first | lia | omega))) h2 so fun m q st' C' m1 m2 s' hq he=>?_)
 dsimp only
 have hz:lo+m≤(arrOf st').size:=by rw [C'.size]; (clear hk h2 m1 hq; (first | lia | omega))
 by_cases hq0:q > 0
 ·refine Qy hq0 ?_
  refine wpS_bind (wpS_reverse (QfK hk ki hn (C'.trans ((Y4 hz).wide (by(clear hk hn h2 m1 m2 hz hq0; (first | lia | omega))) (by(clear hk hn h2 m1 hq hz hq0; (first | lia | omega))))) (by(clear hk hn h2 m1 m2 hz; (first | lia | omega))) m2 (fun i j q1 q2 q3=>?_) h))
  show K (mirror _ _ _ _) j≤K (mirror _ _ _ _) i
  rw [K_mirror_equal hz he,K_mirror_equal hz he]
  exact s' i j q1 q2 q3
 ·refine Qz hq0 ?_
  exact QfK hk ki hn C' (by(clear hk hn h2 m1 m2 hz; (first | lia | omega))) m2 s' h
theorem Qk2 {Q:Option Nat->SortSt->Prop} (hk:kindOf st=oneType') (ki:∀ x∈arrOf st,KI x) (hn:lo+nr≤(arrOf st).size) (h1:1≤nr)
  (h:∀ m st',Chg st st' lo (lo+nr)->1≤m->m≤nr->SOn (arrOf st') lo (lo+m)->Q (some m) st'):wpS (model prog w) A E s (countRun' lo nr) Q st:=by
 rw [Qk1]
 have one:SOn (arrOf st) lo (lo+1):=fun i j q1 q2 q3=>by
  have e:i=j:=by(clear hk hn h1; (first | lia | omega))
  subst e
  exact Int.le_refl _
 refine wpS_bind (QhA hk ki hn (Nat.le_refl 1) h1 one fun n n1 n2 sn hor=>?_)
 dsimp only
 by_cases e:n=nr
 ·refine Qy (QZ e) ?_
  exact wpS_pure (h n st (.refl _ _ _) n1 n2 sn)
 refine Qz (Zo e) ?_
 have hl:=hor.resolve_left e
 by_cases hg:n > 1
 ·refine Qy hg ?_
  refine wpS_bind (QaJ hk ki (by(clear hk n1 n2 hor e hl hg; (first | lia | omega))) (by(clear hk h1 n1 hor e hl; (first | lia | omega))) ?_)
  dsimp only
  by_cases hr:K (arrOf st) lo<K (arrOf st) (lo+n - 1)
  ·refine Qy (decide_eq_true hr) ?_
   exact wpS_pure (h n st (.refl _ _ _) n1 n2 sn)
  ·refine Qz (QaI hr) ?_
   have hz:lo+n≤(arrOf st).size:=by(clear hk h1 n1 hor e hl hg hr; (first | lia | omega))
   have all:∀ k,lo≤k->k<lo+n->K (arrOf st) k=K (arrOf st) (lo+n - 1):=fun k q1 q2=>by
    have:=sn lo k (Nat.le_refl _) q1 q2
    have:=sn k (lo+n - 1) q1 (by(clear hk hn h1 n1 n2 hor e hl hg hr hz q1 this; (first | lia | omega))) (by(clear hk hn h1 n1 n2 hor e hl hr hz q1 q2 this; (first | lia | omega)))
    (clear hk hn h1 n1 n2 hor e hl hg hz q1 q2; (first | lia | omega))
   refine wpS_bind (wpS_reverse (QhB hk ki hn ((Y4 hz).wide (Nat.le_refl _) (by(clear hk hn h1 n1 hor e hl hg hr hz; (first | lia | omega)))) (by(clear hk hn h1 n1 hor hl hg hr hz; (first | lia | omega))) (fun i j q1 q2 q3=>?_) h))
   show K (mirror _ _ _ _) j≤K (mirror _ _ _ _) i
   rw [K_mirror_equal hz all,K_mirror_equal hz all]
   by_cases ej:j<lo+n
   ·rw [all i q1 (by(clear hk hn h1 n1 n2 hor e hl hg hr hz q1 q3; (first | lia | omega))),all j (by(clear hk hn h1 n1 n2 hor e hl hg hr hz q3 ej; (first | lia | omega))) ej]; exact Int.le_refl _
   ·have ej':j=lo+n:=by(clear hk hn h1 n1 n2 hor e hl hg hr hz q1 q2; (first | lia | omega))
    subst ej'
    by_cases ei:i=lo+n
    ·subst ei; exact Int.le_refl _
    ·rw [all i q1 (by(clear hk hn h1 n1 n2 hor e hl hg hr hz q1 q3 ej; (first | lia | omega)))]; exact Int.le_of_lt hl
 ·refine Qz hg ?_
  have e1:n=1:=by(clear hk hn h1 n2 hor e hl; (first | lia | omega))
  subst e1
  refine QhB hk ki hn (.refl _ _ _) (by(clear hk hn n1 n2 hor hl hg; (first | lia | omega))) (fun i j q1 q2 q3=>?_) h
  by_cases ei:i=j
  ·subst ei; exact Int.le_refl _
  ·have e2:i=lo:=by(clear hk hn h1 n1 n2 hor e hl hg; (first | lia | omega))
   have e3:j=lo+1:=by(clear hk hn h1 n1 n2 hor e hl hg q1; (first | lia | omega))
   subst e2; subst e3
   exact Int.le_of_lt hl
end
end SO
end
section
namespace SO
open PySem PyProof PyProof.Rows
noncomputable abbrev Pn:=Nat×Nat×Nat
noncomputable def Tl (xs:Array Keyed):Nat->List Pn->Nat->Prop
 | a,[],b=>a=b
 | a,x::r,b=>x.1=a∧0<x.2.1∧SOn xs a (a+x.2.1)∧Tl xs (a+x.2.1) r b
theorem Tl.le {xs:Array Keyed}:∀ {p:List Pn} {a b:Nat},Tl xs a p b->a+p.length≤b
 | [],_,_,h=>Nat.le_of_eq h
 | x::r,a,b,h=>by
  have:=Tl.le h.2.2.2
  have:=h.2.1
  rw [List.length_cons]
  (first | lia | omega)
theorem Tl.app {xs:Array Keyed}:∀ {p q:List Pn} {a b:Nat},Tl xs a (p++q) b->∃ c,Tl xs a p c∧Tl xs c q b
 | [],_,a,_,h=>⟨a,rfl,h⟩
 | _::_,_,_,_,h=>let ⟨c,h1,h2⟩:=Tl.app h.2.2.2; ⟨c,⟨h.1,h.2.1,h.2.2.1,h1⟩,h2⟩
theorem Tl.glue {xs:Array Keyed}:∀ {p q:List Pn} {a c b:Nat},Tl xs a p c->Tl xs c q b->Tl xs a (p++q) b
 | [],_,_,_,_,h,k=>by cases h; exact k
 | _::_,_,_,_,_,h,k=>⟨h.1,h.2.1,h.2.2.1,Tl.glue h.2.2.2 k⟩
theorem Tl.same {xs ys:Array Keyed}:∀ {p:List Pn} {a b:Nat},Tl xs a p b->(∀ k,a≤k->k<b->K ys k=K xs k)->Tl ys a p b
 | [],_,_,h,_=>h
 | x::r,a,b,h,e=>by
  have hl:=Tl.le h.2.2.2
  refine⟨h.1,h.2.1,fun i j h1 h2 h3=>?_,Tl.same h.2.2.2 fun k h1 h2=>e k (by(first | lia | omega)) h2⟩
  rw [e i h1 (by(first | lia | omega)),e j (by(first | lia | omega)) (by(first | lia | omega))]
  exact h.2.2.1 i j h1 h2 h3
theorem Tl.pow {xs:Array Keyed} (f:Pn->Pn) (hf:∀ x,(f x).1=x.1∧(f x).2.1=x.2.1):∀ {p:List Pn} {i a b:Nat},Tl xs a p b->Tl xs a (p.modify i f) b
 | [],i,_,_,h=>by cases i <;> exact h
 | x::r,0,a,b,h=>by
  show Tl xs a (f x::r) b
  unfold Tl
  rw [(hf x).1,(hf x).2]
  exact h
 | _::_,_+1,_,_,h=>⟨h.1,h.2.1,h.2.2.1,Tl.pow f hf h.2.2.2⟩
theorem Qkh {l:List Pn} {i:Nat} (h:i+1<l.length):∃ p x y q,l=p++x::y::q∧p.length=i:=by
 refine⟨l.take i,l[i],l[i+1],l.drop (i+2),?_,by rw [List.length_take]; (first | lia | omega)⟩
 rw [← List.drop_eq_getElem_cons h,← List.drop_eq_getElem_cons (by(first | lia | omega)),List.take_append_drop]
theorem Qki (p q:List Pn) (x y z:Pn):((p++x::y::q).set p.length z).eraseIdx (p.length+1)=p++z::q:=by
 rw [List.set_append_right _ _ (Nat.le_refl _),Nat.sub_self,List.set_cons_zero,List.eraseIdx_append_of_length_le (Nat.le_add_right _ 1),Nat.add_sub_cancel_left,List.eraseIdx_cons_succ,List.eraseIdx_cons_zero]
structure Std (a₀:Array Keyed) (st:SortSt) (hi:Nat):Prop where
 kind:kindOf st=oneType'
 failed:failedOf st=none
 perm:(arrOf st).toList.Perm a₀.toList
 tl:Tl (arrOf st) 0 (pendingOf st).toList hi
 le:hi≤a₀.size
theorem Std.size {a₀:Array Keyed} {st:SortSt} {hi:Nat} (h:Std a₀ st hi):(arrOf st).size=a₀.size:=by
 have:=h.perm.length_eq
 rwa [Array.length_toList,Array.length_toList] at this
theorem Std.ki {a₀:Array Keyed} {st:SortSt} {hi:Nat} (h:Std a₀ st hi) (k:∀ x∈a₀,KI x):∀ x∈arrOf st,KI x :=
 fun x hx=>k x (Array.mem_toList_iff.mp (h.perm.mem_iff.mp (Array.mem_toList_iff.mpr hx)))
section
variable {prog:Program} {w:World} {A:Around} {E:Value->Shared->Prop} {s:Shared} {a₀:Array Keyed}
theorem QfL {st:SortSt} {i hi:Nat} {Q:Bool->SortSt->Prop} (k0:∀ x∈a₀,KI x) (S:Std a₀ st hi) (h1:i+1<(pendingOf st).size)
  (h:∀ st',Std a₀ st' hi->(pendingOf st').size+1=(pendingOf st).size->(∀ k,hi≤k->K (arrOf st') k=K (arrOf st) k)->Q true st') :
  wpS (model prog w) A E s (mergeAt' i) Q st:=by
 obtain⟨p,⟨u,m,pw⟩,⟨v,n,pw2⟩,q,e,hp⟩:=Qkh (l:=(pendingOf st).toList) (i:=i) (by rw [Array.length_toList]; exact h1)
 have T:=S.tl
 rw [e] at T
 obtain⟨c,T1,T2⟩:=T.app
 obtain⟨e1,m0,so1,e2,n0,so2,T3⟩:=T2
 dsimp only at e1 m0 so1 e2 n0 so2 T3
 subst e1
 subst e2
 have l3:=T3.le
 have l1:=T1.le
 have l0:=S.le
 have hz:=S.size
 have g1:(pendingOf st)[i]?=some (u,m,pw):=by
  rw [← Array.getElem?_toList,e,List.getElem?_append_right (by(first | lia | omega)),hp,Nat.sub_self]; rfl
 have g2:(pendingOf st)[i+1]?=some (u+m,n,pw2):=by
  rw [← Array.getElem?_toList,e,List.getElem?_append_right (by(first | lia | omega)),hp,Nat.add_sub_cancel_left]; rfl
 refine Qkf S.kind S.failed (S.ki k0) g1 g2 rfl m0 n0 (by(first | lia | omega)) so1 so2 fun st' hk hf hpe hpm hso hout=>?_
 have ep:(pendingOf st').toList=p++(u,m+n,pw)::q:=by
  rw [hpe,Array.toList_eraseIdxIfInBounds,Array.toList_setIfInBounds,e,← hp,Qki]
 refine h st' ⟨hk,hf,hpm.trans S.perm,?_,l0⟩ ?_ fun k hk=>hout k (.inr (by(first | lia | omega)))
 ·rw [ep]
  refine(T1.same fun k _ h2=>hout k (.inl h2)).glue ⟨rfl,by show 0<m+n; (first | lia | omega),?_,?_⟩
  ·show SOn _ u (u+(m+n))
   rw [← Nat.add_assoc]; exact hso
  ·show Tl _ (u+(m+n)) q hi
   rw [← Nat.add_assoc]
   exact T3.same fun k h2 _=>hout k (.inr h2)
 ·rw [← Array.length_toList,ep,← Array.length_toList (xs:=pendingOf st),e,List.length_append,List.length_append]
  rfl
end
end SO
end
section
namespace SO
open PySem PyProof PyProof.Rows
noncomputable def QcQ (z lo n:Nat):StateT SortSt Sem (ForInStep (Option Unit×Nat)):=do
 let t ← get
 match (pendingOf t).back? with
 | some (u,m,_)=>do
  let c ← forIn [0:z] ((none,()):Option Unit×Unit) fun _ _=>do
   let t ← get
   match (if (pendingOf t).size > 1 then (pendingOf t)[(pendingOf t).size - 2]? else none) with
   | some (_,_,o) =>
    if o≤power' z (2*u+m) (2*u+m+m+n) z then pure (ForInStep.done (none,())) else do
     let y ← mergeAt' ((pendingOf t).size - 2)
     if (!y)=true then pure (ForInStep.done (some (),())) else pure (ForInStep.yield (none,()))
   | _=>pure (ForInStep.done (none,()))
  match c.fst with
  | some r=>pure (ForInStep.done (some r,lo))
  | none=>do
   modify fun t=>setPending t ((pendingOf t).modify ((pendingOf t).size - 1) fun x=>(x.fst,x.snd.fst,power' z (2*u+m) (2*u+m+m+n) z))
   modify fun t=>setPending t ((pendingOf t).push (lo,n,0))
   pure (ForInStep.yield (none,lo+n))
 | _=>do
  modify fun t=>setPending t ((pendingOf t).push (lo,n,0))
  pure (ForInStep.yield (none,lo+n))
section
variable {prog:Program} {w:World} {A:Around} {E:Value->Shared->Prop} {s:Shared} {a₀:Array Keyed}
theorem Std.push {st:SortSt} {lo n:Nat} (S:Std a₀ st lo) (h0:0<n) (hn:lo+n≤a₀.size) (so:SOn (arrOf st) lo (lo+n)) :
  Std a₀ (setPending st ((pendingOf st).push (lo,n,0))) (lo+n):=by
 refine⟨S.kind,S.failed,S.perm,?_,hn⟩
 show Tl (arrOf st) 0 ((pendingOf st).push (lo,n,0)).toList (lo+n)
 rw [Array.toList_push]
 exact S.tl.glue ⟨rfl,h0,so,rfl⟩
noncomputable def Qk3 (a₀:Array Keyed) (v:Nat):ForInStep (Option Unit×Nat)->SortSt->Prop
 | .done _,_=>False
 | .yield c,st'=>c=(none,v)∧Std a₀ st' v
theorem QfM {st:SortSt} {z lo n:Nat} (k0:∀ x∈a₀,KI x) (S:Std a₀ st lo) (h0:0<n) (hn:lo+n≤a₀.size) (so:SOn (arrOf st) lo (lo+n)) :
  wpS (model prog w) A E s (QcQ z lo n) (Qk3 a₀ (lo+n)) st:=by
 unfold QcQ
 refine wpS_bind (wpS_get ?_)
 cases hb:(pendingOf st).back? with
 | none=>exact wpS_bind (wpS_modify (wpS_pure ⟨rfl,S.push h0 hn so⟩))
 | some x =>
  obtain⟨u,m,pw⟩:=x
  dsimp only
  refine wpS_bind (wpS_mono (wpS_forRange (I:=fun _ c st'=>c=(none,())∧Std a₀ st' lo∧SOn (arrOf st') lo (lo+n)) (Q:=fun c st'=>c=(none,())∧Std a₀ st' lo∧SOn (arrOf st') lo (lo+n))
   ?step (fun _ _ h=>h) ⟨rfl,S,so⟩) ?post)
  case post =>
   rintro c st' ⟨rfl,S',so'⟩
   dsimp only
   refine wpS_bind (wpS_modify (wpS_bind (wpS_modify (wpS_pure ⟨rfl,Std.push (st:=setPending st' _) ⟨S'.kind,S'.failed,S'.perm,?_,S'.le⟩ h0 hn so'⟩))))
   show Tl (arrOf st') 0 ((pendingOf st').modify _ _).toList lo
   rw [Array.toList_modify]
   exact Tl.pow (fun x=>(x.fst,x.snd.fst,power' z (2*u+m) (2*u+m+m+n) z)) (fun _=>⟨rfl,rfl⟩) S'.tl
  case step =>
   rintro x c st' _ _ ⟨rfl,S',so'⟩
   refine wpS_bind (wpS_get ?_)
   by_cases h1:(pendingOf st').size > 1
   ·rw [if_pos h1]
    cases hg:(pendingOf st')[(pendingOf st').size - 2]? with
    | none=>exact wpS_pure ⟨rfl,S',so'⟩
    | some y =>
     obtain⟨y1,y2,o⟩:=y
     dsimp only
     split
     ·exact wpS_pure ⟨rfl,S',so'⟩
     ·refine wpS_bind (QfL k0 S' (by(clear h0 hn hb hg; (first | lia | omega))) fun st2 S2 _ ho=>?_)
      rw [if_neg (by decide)]
      refine wpS_pure ⟨rfl,S2,fun i j q1 q2 q3=>?_⟩
      rw [ho i q1,ho j (by(clear h0 hn hb h1 hg q3; (first | lia | omega)))]
      exact so' i j q1 q2 q3
   ·rw [if_neg h1]
    exact wpS_pure ⟨rfl,S',so'⟩
theorem QiA {st:SortSt} {Q:Unit->SortSt->Prop} (k0:∀ x∈a₀,KI x) (S:Std a₀ st 0)
  (h:∀ st',(arrOf st').Perm a₀->failedOf st'=none->SortedTo (arrOf st') a₀.size->Q () st'):wpS (model prog w) A E s sortRuns' Q st:=by
 rw [sortRuns'_eq]
 refine wpS_bind (wpS_get ?_)
 dsimp only
 generalize minRun' (arrOf st).size (arrOf st).size 0=mr
 have hz:=S.size
 generalize hzz:(arrOf st).size=z at hz
 have hz2:=hz
 clear hzz
 refine wpS_bind (wpS_mono (wpS_forRange (I:=fun x c st'=>∃ lo,c=(none,lo)∧Std a₀ st' lo∧(x≤lo∨lo=z))
  (Q:=fun c st'=>c=(none,z)∧Std a₀ st' z) ?step ?fin ⟨0,rfl,S,.inl (Nat.le_refl _)⟩) ?post)
 case fin =>
  rintro c st' ⟨lo,rfl,S',hx⟩
  have:=S'.le
  have e:lo=z:=by(clear hz2; (first | lia | omega))
  subst e
  exact⟨rfl,S'⟩
 case step =>
  rintro x c st' _ hx ⟨lo,rfl,S',hlo⟩
  dsimp only
  have hle:=S'.le
  by_cases hge:lo≥z
  ·refine Qy hge ?_
   have e:lo=z:=by(clear hz2 hx hlo; (first | lia | omega))
   subst e
   exact wpS_pure ⟨rfl,S'⟩
  refine Qz hge ?_
  have hs:=S'.size
  refine wpS_bind (Qk2 S'.kind (S'.ki k0) (by(clear hz2 hx hlo hle; (first | lia | omega))) (by(clear hz2 hx hlo hle; (first | lia | omega))) fun m st2 C2 m1 m2 so2=>?_)
  have S2:Std a₀ st2 lo:=⟨C2.kind.trans S'.kind,C2.failed.trans S'.failed,C2.perm.trans S'.perm,by
   rw [C2.pend]; exact S'.tl.same fun k _ h2=>C2.out k (.inl h2),hle⟩
  dsimp only
  have fin:∀ {n:Nat} {st3:SortSt} (q:StateT SortSt Sem (ForInStep (Option Unit×Nat))),q=QcQ z lo n->0<n->lo+n≤a₀.size->Std a₀ st3 lo->SOn (arrOf st3) lo (lo+n) ->
    wpS (model prog w) A E s q (fun r st'=>match r with
     | .done c=>c=(none,z)∧Std a₀ st' z
     | .yield c=>∃ lo,c=(none,lo)∧Std a₀ st' lo∧(x+1≤lo∨lo=z)) st3:=by
   rintro n st3 _ rfl n0 hn S3 so3
   refine wpS_mono (QfM k0 S3 n0 hn so3) fun r st4 hr=>?_
   cases r with
   | done c=>exact hr.elim
   | yield c=>exact⟨lo+n,hr.1,hr.2,by(clear hz2 hx hle m1 m2; (first | lia | omega))⟩
  by_cases hm:m<mr
  ·refine Qy hm ?_
   refine wpS_bind (wpS_lift (wpAny_rule ⟨rfl,?_⟩))
   have hz3:=S2.size
   refine wpS_bind (Qk0 S2.kind (S2.ki k0) (n:=min (z - lo) mr) (by(clear hz2 hx hlo hle m1 m2 hm; (first | lia | omega))) (by(clear hz hz2 hx hlo hle hge hs m1 hz3; (first | lia | omega))) so2 fun st3 C3 so3=>?_)
   rw [if_neg (by decide)]
   have S3:Std a₀ st3 lo:=⟨C3.kind.trans S2.kind,C3.failed.trans S2.failed,C3.perm.trans S2.perm,by
    rw [C3.pend]; exact S2.tl.same fun k _ h2=>C3.out k (.inl h2),hle⟩
   refine wpS_mono (fin (n:=min (z - lo) mr) _ ?_ (by(clear hz hz2 hx hlo hle hge hs hz3; (first | lia | omega))) (by(clear hz2 hx hlo hle m1 m2 hm; (first | lia | omega))) S3 so3) fun r _ h=>by cases r <;> exact h
   unfold QcQ
   congr 1
   funext t
   cases (pendingOf t).back? with
   | none=>rfl
   | some x =>
    obtain⟨u,m,pw⟩:=x
    dsimp only
    congr 1
    funext c
    obtain⟨r,u'⟩:=c
    cases r <;> rfl
  ·refine Qz hm ?_
   refine wpS_mono (fin (n:=m) _ ?_ (by(clear hz hz2 hx hlo hle hge hs m2 hm; (first | lia | omega))) (by(clear hz2 hx hlo hle m1 hm; (first | lia | omega))) S2 so2) fun r _ h=>by cases r <;> exact h
   unfold QcQ
   congr 1
   funext t
   cases (pendingOf t).back? with
   | none=>rfl
   | some x =>
    obtain⟨u,m,pw⟩:=x
    dsimp only
    congr 1
    funext c
    obtain⟨r,u'⟩:=c
    cases r <;> rfl
 case post =>
  rintro c st' ⟨rfl,S'⟩
  dsimp only
  refine wpS_bind (wpS_mono (wpS_forRange (I:=fun x c st'=>c=(none,())∧Std a₀ st' z∧((pendingOf st').size≤1∨(pendingOf st').size+x≤z))
   (Q:=fun c st'=>c=(none,())∧Std a₀ st' z∧(pendingOf st').size≤1) ?s1 ?f1 ⟨rfl,S',.inr ?i1⟩) ?p1)
  case i1 =>
   have:=S'.tl.le
   rw [Array.length_toList] at this
   (clear hz2; (first | lia | omega))
  case f1 =>
   rintro c st2 ⟨rfl,S2,hp⟩
   exact⟨rfl,S2,by(clear hz2; (first | lia | omega))⟩
  case p1 =>
   rintro c st2 ⟨rfl,S2,hp⟩
   dsimp only
   refine wpS_pure (h st2 (Array.perm_iff_toList_perm.mpr S2.perm) S2.failed ?_)
   intro i j hij hj
   have T:=S2.tl
   rw [← Array.length_toList] at hp
   cases hl:(pendingOf st2).toList with
   | nil =>
    rw [hl] at T
    have:0=z:=T
    (clear hz2 hp hij hl; (first | lia | omega))
   | cons x r =>
    rw [hl] at T hp
    have hr:r=[]:=by
     cases r with
     | nil=>rfl
     | cons _ _=>simp at hp
    subst hr
    have e:0+x.2.1=z:=T.2.2.2
    exact T.2.2.1 i j (Nat.zero_le _) hij (by(clear hz2 hij hp hl; (first | lia | omega)))
  case s1 =>
   rintro x c st2 _ hx ⟨rfl,S2,hp⟩
   refine wpS_bind (wpS_get ?_)
   by_cases h1:(pendingOf st2).size≤1
   ·rw [if_pos h1]
    exact wpS_pure ⟨rfl,S2,h1⟩
   rw [if_neg h1]
   have go:∀ i,i+1<(pendingOf st2).size->wpS (model prog w) A E s (do
     let y ← mergeAt' i
     if (!y)=true then pure (ForInStep.done (some (),())) else pure (ForInStep.yield (none,())))
     (fun r st'=>match r with
      | .done c=>c=(none,())∧Std a₀ st' z∧(pendingOf st').size≤1
      | .yield c=>c=((none,()):Option Unit×Unit)∧Std a₀ st' z∧((pendingOf st').size≤1∨(pendingOf st').size+(x+1)≤z)) st2:=fun i hi =>
    wpS_bind (QfL k0 S2 hi fun st3 S3 hs _=>by
     rw [if_neg (by decide)]
     exact wpS_pure ⟨rfl,S3,by(clear hz2 hx h1 hi; (first | lia | omega))⟩)
   by_cases hc:Option.any (fun q=>decide (q<(pendingOf st2)[(pendingOf st2).size - 2+1]?.elim 0 fun x=>x.2.1)) (if (pendingOf st2).size - 2 > 0 then (pendingOf st2)[(pendingOf st2).size - 2 - 1]?.map (fun x=>x.2.1) else none)=true
   ·rw [if_pos hc]
    exact wpS_mono (go _ (by(clear hz hz2 hx hp hc; (first | lia | omega)))) fun r _ h=>by cases r <;> exact h
   ·rw [if_neg hc]
    exact wpS_mono (go _ (by(clear hz hz2 hx hp hc; (first | lia | omega)))) fun r _ h=>by cases r <;> exact h
end
end SO
end
section
namespace SO
open PySem PyProof PyProof.Rows
section
variable {prog:Program} {w:World} {A:Around} {E:Value->Shared->Prop} {s:Shared}
theorem QgO {p:Addr} {us:List Value} {zs:List Int} {e0:Nat} {P:Fin->Shared->Prop} (ho:s.heap.get? p=some (seqObj "list" us.toArray e0))
  (hu:IntsAre us zs) (hl:us.length≤sizeLine)
  (h:∀(out:Array Value) (ys:List Int),IntsAre out.toList ys->ys.Perm zs->ys.Pairwise (· ≤ ·)->P (.done (.ret .none)) { s with heap:=sortedHeap s.heap p us out }) :
  wpAny (model prog w) A (Builtin.«list.sort» ⟨[.ref p],[]⟩) P E s:=by
 by_cases h64:us.length<64
 ·exact list_sort_tree ho hu h64 h
 rw [list_sort_plain]
 have hp:p<s.heap.objs.size:=Heap.lt_size ho
 have hs:us.toArray.size=us.length:=List.size_toArray
 refine wpAny_bind (listItems_at ho rfl (wpAny_bind (listUpdate_at ho rfl ?_ (by rw [hs]; exact hl) (Nat.zero_le _))))
 obtain⟨e1,o1⟩:∃ e1,(s.heap.update p (Obj.mapSeq fun _=>#[])).get? p=some (seqObj "list" #[] e1):=⟨_,get?_update_seq ho (fun _=>#[])⟩
 refine wpAny_bind (seqEpoch_at o1 rfl (wpAny_bind (wpAny_newTuple (wpAny_bind (wpAny_newList (wpAny_holding ?_))))))
 have o2:(((s.heap.update p (Obj.mapSeq fun _=>#[])).push (seqObj "tuple" us.toArray 0)).push (seqObj "list" #[] 0)).get? p=some (seqObj "list" #[] e1):=by
  rw [Heap.get?_push_ne _ _ _ (by rw [size_push',Heap.size_update]; exact Nat.ne_of_lt (Nat.lt_succ_of_lt hp)),
   Heap.get?_push_ne _ _ _ (by rw [Heap.size_update]; exact Nat.ne_of_lt hp)]
  exact o1
 show wpAny (model prog w) A _ P E
  { s with heap:=((s.heap.update p (Obj.mapSeq fun _=>#[])).push (seqObj "tuple" us.toArray 0)).push (seqObj "list" #[] 0) }
 dsimp only
 rw [if_neg (by(first | lia | omega)),if_neg (by(first | lia | omega))]
 have kk:keyKind' us.toArray=pure oneType':=by
  match us,hu,h64 with
  | [],_,h64=>exact absurd (show(0:Nat)<64 by(first | lia | omega)) h64
  | [_],_,h64=>exact absurd (show(1:Nat)<64 by(first | lia | omega)) h64
  | _::_::_,hu,_=>exact keyKind_ints hu
 rw [kk]
 have KS:∀ x∈pairsOf us,KI x:=fun x hx=>hu.intKeys x (Array.mem_toList_iff.mpr hx)
 have ST:Std (pairsOf us) (SortSt.mk' oneType' (us.toArray.zip us.toArray) #[] 7 none) 0:=⟨rfl,rfl,List.Perm.refl _,rfl,Nat.zero_le _⟩
 refine wpAny_bind (wpAny_pure (wpAny_bind (wpAny_mono (QiA KS ST
  (Q:=fun _ t=>(arrOf t).Perm (pairsOf us)∧failedOf t=none∧SortedTo (arrOf t) (pairsOf us).size) fun t b1 b2 b3=>⟨b1,b2,b3⟩) ?_ fun _ _ x=>x)))
 rintro ⟨⟨⟩,t⟩ s' ⟨rfl,b1,b2,b3⟩
 dsimp only
 refine wpAny_bind (seqEpoch_at o2 rfl (wpAny_bind (listUpdate_at o2 rfl ?_ (Nat.zero_le _) ?_)))
 ·rw [b2]
  simp only [bne_self_eq_false,Bool.false_eq_true,if_false]
  obtain⟨ys,c1,c2,c3⟩:=sorted_out hu b1 b3
  exact wpAny_pure (h _ ys c1 c2 c3)
 ·have:=b1.size_eq
  rw [pairsOf_size] at this
  rw [Array.size_map]
  exact Nat.le_trans (Nat.le_of_eq this) (Nat.le_succ_of_le hl)
theorem sorted_any {p:Addr} {us:List Value} {zs:List Int} {Q:Value->Shared->Prop} (hp:s.heap.IsList p us.toArray) (hu:IntsAre us zs) (hl:us.length≤sizeLine)
  (h:∀(out:Array Value) (ys:List Int),IntsAre out.toList ys->ys.Perm zs->ys.Pairwise (· ≤ ·)->Q (.ref (s.heap.objs.size+1)) { s with heap:=sortedAll s.heap us out }) :
  wpAny (model prog w) A (call (.builtin "sorted") [.ref p]) Q E s:=by
 refine Calls.call_function_entry kind_sorted plain_sorted entry_sorted (args_sorted1 _) ?_
 unfold Builtin.«sorted»
 refine wpAny_bind (m:=checkCount "sorted" 1 1 _) (wpAny_pure (wpAny_bind (collect_list hp (wpAny_bind (wpAny_newList ?_)) hl)))
 have z:((s.heap.push (seqObj "list" #[] 0)).update s.heap.objs.size (Obj.mapSeq (· ++ us.toArray))).objs.size=s.heap.objs.size+1:=by rw [Heap.size_update,size_push']
 have o:(((s.heap.push (seqObj "list" #[] 0)).update s.heap.objs.size (Obj.mapSeq (· ++ us.toArray))).push (seqObj "list" us.toArray 0)).get? (s.heap.objs.size+1)
   = some (seqObj "list" us.toArray 0):=by rw [← z]; exact Heap.get?_push_size _ rfl
 show wpAny _ _ _ _ _
  { s with heap:=((s.heap.push (seqObj "list" #[] 0)).update s.heap.objs.size (Obj.mapSeq (· ++ us.toArray))).push (seqObj "list" us.toArray 0) }
 rw [z]
 refine wpAny_bind (wpAny_holding (wpAny_call_entry slot_list_sort ⟨_,o,rfl⟩ entry_list_sort (QgO o hu hl fun out ys b1 b2 b3=>⟨_,rfl,wpAny_pure ⟨_,rfl,h out ys b1 b2 b3⟩⟩) (args_list_sort _)))
end
end SO
end
section
namespace L3
open PySem
noncomputable def insZ (x:Int):List Int->List Int
 | []=>[x]
 | y::r=>if x≤y then x::y::r else y::insZ x r
noncomputable def QaK:List Int->List Int
 | []=>[]
 | x::r=>insZ x (QaK r)
noncomputable def JQ (x:D) (g:G):Res D:=match Qr g x with
 | some (true,ds)=>(match QcB ds with
  | some ns=>.ok (.ref g.length) (g++[.lst ((QaK ns).map .int)])
  | none=>.stuck)
 | _=>.stuck
theorem QaL (x:Int):∀ l:List Int,(insZ x l).Perm (x::l)
 | []=>.refl _
 | y::r=>by
  unfold insZ
  split
  ·exact .refl _
  ·exact((QaL x r).cons y).trans (List.Perm.swap x y r)
theorem Y5:∀ l:List Int,(QaK l).Perm l
 | []=>.refl _
 | x::r=>(QaL x (QaK r)).trans ((Y5 r).cons x)
theorem QaM (x:Int):∀ l:List Int,l.Pairwise (· ≤ ·)->(insZ x l).Pairwise (· ≤ ·)
 | [],_=>by simp [insZ]
 | y::r,h=>by
  unfold insZ
  have h':=List.pairwise_cons.mp h
  split
  ·rename_i hxy
   exact List.pairwise_cons.mpr ⟨fun z hz=>by
    rcases List.mem_cons.mp hz with rfl | hz
    ·exact hxy
    ·exact Int.le_trans hxy (h'.1 z hz),h⟩
  ·rename_i hxy
   refine List.pairwise_cons.mpr ⟨fun z hz=>?_,QaM x r h'.2⟩
   rcases List.mem_cons.mp ((QaL x r).mem_iff.mp hz) with rfl | hz
   ·omega
   ·exact h'.1 z hz
theorem YR:∀ l:List Int,(QaK l).Pairwise (· ≤ ·)
 | []=>.nil
 | x::r=>QaM x _ (YR r)
theorem Jn:∀(l m:List Int),l.Perm m->l.Pairwise (· ≤ ·)->m.Pairwise (· ≤ ·)->l=m
 | [],m,h,_,_=>(List.nil_perm.mp h).symm
 | x::l,[],h,_,_=>by have:=h.length_eq; simp at this
 | x::l,y::m,h,hl,hm=>by
  have hl':=List.pairwise_cons.mp hl
  have hm':=List.pairwise_cons.mp hm
  have e:x=y:=by
   have h1:x∈y::m:=h.mem_iff.mp (List.mem_cons_self ..)
   have h2:y∈x::l:=h.mem_iff.mpr (List.mem_cons_self ..)
   have a:y≤x:=by
    rcases List.mem_cons.mp h1 with e | h1
    ·omega
    ·exact hm'.1 x h1
   have b:x≤y:=by
    rcases List.mem_cons.mp h2 with e | h2
    ·omega
    ·exact hl'.1 y h2
   omega
  subst e
  rw [Jn l m ((List.perm_cons x).mp h) hl'.2 hm'.2]
end L3
end
section
namespace L3
open PySem PySem.Spec PyProof.Rows L2
section
variable {X:Cx} {ca:Nat->Addr} {a b e o i:Expr} {ma mb me mo mi:ME} {pos p p2 apos:Pos} {k:Nat}
theorem intsAre_of:∀ {ns:List Int} {us:List Value},Vals (ns.map V.int) us->IntsAre us ns
 | [],_,h=>by cases h; exact .nil
 | n::ns,_,h=>by
  cases h with
  | cons h1 h2 =>
   obtain⟨t,rfl⟩:=h1
   exact .cons n t (intsAre_of h2)
theorem QfN:∀ {us:List Value} {ns:List Int},IntsAre us ns->Vals (ns.map V.int) us
 | _,_,.nil=>.nil
 | _,_,.cons n t r=>.cons ⟨t,rfl⟩ (QfN r)
theorem Qdi:CallR X (.builtin "sorted") (fun xs H Q=>∃(p:Addr) (ns:List Int),xs=[.ref p]∧SqL X.K H p (ns.map V.int)∧∀ l,H l=none->Q (.ref l) (upd H l (.lst ((QaK ns).map V.int)))):=by
 intro pins s σ H xs us Q I r h
 obtain⟨p,ns,rfl,hq,q⟩:=h
 obtain⟨u,rfl,rx⟩:=Qeg r
 cases rx
 obtain⟨its,r',pl,hz⟩:=I.list hq
 have hlen:=r'.length
 rw [List.length_map] at hlen
 refine SO.sorted_any pl.isList (intsAre_of r') (by rw [List.length_map] at hz; rw [← hlen]; exact hz) fun out ns' a1 a2 a3=>?_
 have e:ns'=QaK ns:=Jn _ _ (a2.trans (Y5 ns).symm) a3 (YR ns)
 subst e
 obtain⟨c,he⟩:=sortedAll_at s.heap its out
 have hl2:((QaK ns).map V.int).length≤sizeLine:=by rw [List.length_map,(Y5 ns).length_eq]; rw [List.length_map] at hz; exact hz
 exact⟨.ref (s.heap.objs.size+1),_,I.laid (t':=s.toks) (fun b o=>sortedAll_old) (Nat.le_succ _) (show ObjOk X.prog X.w _ _ _ (.lst ((QaK ns).map V.int)) from ⟨hl2,out.toList,c,QfN a1,he⟩),rfl,q _ (I.hok.fresh (Nat.le_succ _))⟩
theorem Qdj {K:PySem.W.Frag} {μ:List Addr} {H:Hp}:∀ ns:List Int,Dens K μ H (ns.map V.int) (ns.map D.int)
 | []=>.nil
 | n::ns=>.cons (.int n) (Qdj ns)
theorem QgP (hm:X.mg "sorted" = none) (he:PE3 ca X e me) (hg:Gl X "sorted":=by rfl) (hs:starEach [e] X.env=[(false,eval e X.env)]:=by rfl) (hpl:(backTo pos (starEach [] X.env)).any (·.1)=false:=by rfl) :
  PE3 ca X (.Call (.Name "sorted" p) [e] [] pos) (mOp1 JQ me) :=
 Qih (r:=fun xs H Q=>∃(p:Addr) (ns:List Int),xs=[V.ref p]∧SqL X.K H p (ns.map V.int)∧∀ l,H l=none->Q (.ref l) (upd H l (.lst ((QaK ns).map V.int)))) (fun _ _=>Qdi) hm boot_sorted (fun Φ σ H μ g y d Q r q pp=>by
  have el:∀ l:Addr,(μ++[l])[g.length]?=some l:=fun l=>by rw [← r.len]; simp
  unfold JQ at pp
  cases hs1:Qr g d with
  | none=>rw [hs1] at pp; exact pp.elim
  | some p1 =>
   obtain⟨b,ds⟩:=p1
   rw [hs1] at pp
   cases b with
   | false=>exact pp.elim
   | true =>
    dsimp only at pp
    cases hi:QcB ds with
    | none=>rw [hi] at pp; exact pp.elim
    | some ns =>
     rw [hi] at pp
     dsimp only at pp
     obtain⟨a,ws,rfl,sq,dn⟩:=Yd r q hs1
     have ew:=QcL dn hi
     subst ew
     exact⟨a,ns,rfl,sq,fun l hl=>pp _ _ (μ++[l]) (QD hl) (r.push hl ⟨_,Qt,Qdj _⟩) (.ref (el l))⟩) he hg (by decide) (by decide) hs hpl
end
end L3
end
section
namespace L3
open PySem
noncomputable def Qdk (d:D) (g:G):Res Src:=match Qr g d with
 | some (true,ds)=>.ok ⟨fun g i=>(match Qr g d with
  | some (_,es)=>(match es[i]? with
   | some x=>some (some (.tup [.int i,x]))
   | none=>some none)
  | none=>none),ds.length⟩ g
 | _=>.stuck
noncomputable def JR (a:ME):MI:=fun σ g=>(a σ g).bind Qdk
end L3
end
section
namespace L3
open PySem PySem.Spec PyProof.Rows L2
noncomputable def Ite (K:PySem.W.Frag) (a:Addr):It :=
  ⟨fun i H=>∃ xs x,SqL K H a xs∧xs[i]?=some x,
   fun i H v H'=>∃ p x,H p=none∧v=.ref p∧H'=upd H p (.tup [.int (i:Int),x])∧∀ xs,SqL K H a xs->xs[i]?=some x,
   fun i H=>∃ xs,SqL K H a xs∧xs.length≤i⟩
noncomputable def EnTn (e it l:Addr) (i:Nat) (h:Heap):Prop:=(∃ old,IsEnum h e it (i:Int) old)∧h.IsListIter it l i
theorem QfO {P:Program} {w:World} {K:PySem.W.Frag} {elts:List Expr} {kk:Nat} {tp:Pos} (e it l:Addr) (hei:e≠it) :
  Turn P w K (.Tuple elts kk tp) (Ite K l) [e,it] e (EnTn e it l) where
 mem:=by simp
 obj:=fun i h st b hb=>by
  obtain⟨⟨old,hE⟩,hI⟩:=st
  have hb':b=e∨b=it:=by simpa using hb
  rcases hb' with rfl | rfl
  ·exact⟨_,hE,fun v q=>by cases q⟩
  ·obtain⟨o,eo,c,d⟩:=hI
   exact⟨o,eo,fun v z=>by rw [d] at z; cases z⟩
 keep:=fun i h h' st k=>by
  obtain⟨⟨old,hE⟩,hI⟩:=st
  exact⟨⟨old,k e (by simp) _ hE⟩,hI.at fun o x=>k it (by simp) o x⟩
 item:=by
  intro X hP hw hK hc i pins s σ H E I hf st hg
  subst hP hw hK
  obtain⟨xs,x,q1,hx⟩:=hg
  obtain⟨its,r1,p1,hz1⟩:=I.list q1
  obtain⟨u,hu,ru⟩:=r1.get hx
  obtain⟨⟨old,hE⟩,hI⟩:=st
  have fe:=hf e (by simp)
  have fi:=hf it (by simp)
  refine wpAny_pyNext_enum_item hE hI p1.isList (x:=u) (by simpa using hu) hei fun h' ho hit' hT hsz hk=>?_
  have hp:H s.heap.objs.size=none:=I.hok.fresh (Nat.le_refl _)
  have inC:∀ b,b∈[e,it]->FpOk X pins H b:=fun b hb=>hf b hb
  have hk':∀ b o,b∉[e,it]->s.heap.get? b=some o->h'.get? b=some o:=fun b o hb ee=>hk b o (fun q=>hb (by simp [q])) (fun q=>hb (by simp [q])) ee
  have nC:∀ b v,H b=some v->b∉[e,it]:=fun b v ee hb=>by rw [(inC b hb).1] at ee; cases ee
  have nP:∀ b v,H b=some v->b≠s.heap.objs.size:=fun b v ee=>QI ee hp
  have I1:Inv X pins σ (upd H s.heap.objs.size (.tup [.int (i:Int),x])) { s with heap:=h',toks:=s.toks+1 }:=by
   refine I.step (g':=s.gens) (t':=s.toks+1) (d':=s.drawn) (ch:=[e,it]) (fun b hb=>⟨(inC b hb).2.2.2.1,(inC b hb).2.1,(inC b hb).2.2.2.2.1,(inC b hb).2.2.2.2.2⟩) (fun b o _ _ hb ee _=>hk' b o hb ee) (fun b o _ _ hb ee _=>⟨o.slots,hk' b o hb ee⟩)
    (fun b o hb ee n=>by rw [Qw (Nat.ne_of_lt (Heap.lt_size ee))]; exact n) (fun b o hb ee=>⟨o,hk' b o hb ee⟩) (fun b v ee=>by rw [Qw (nP b _ ee)]; exact ee) (fun b o v ee=>by rw [Qw (nP b _ ee)]; exact ee) (fun b ps ee=>⟨#[],by rw [Qw (nP b _ ee),ee]; simp⟩)
    (fun m hm=>?_) (fun b v ee=>?_) I.bare
   ·obtain⟨o,es,ep,hoo,rr⟩:=hm
    exact⟨o,es,ep,hk' _ o (fun hb=>(inC _ hb).2.1 rfl) hoo,rr⟩
   ·by_cases hb:b=s.heap.objs.size
    ·subst hb
     rw [Qt] at ee; cases ee
     exact⟨by rw [sizeLine_eq]; show 2≤16777216; decide,[.int (i:Int) s.toks,u],.cons ⟨_,rfl⟩ (.cons ru .nil),⟨_,hT,rfl,_,rfl⟩⟩
    ·rw [Qw hb] at ee
     refine(I.hok b v ee).stay (fun c' v' hc' q=>?_) (fun c' q=>by rw [Qw (nP c' _ q)]; exact q) fun c' xs' q=>by rw [Qw (nP c' _ q)]; exact q
     rcases hc' with rfl | hc'
     ·exact hk' _ _ (nC _ _ ee) q
     ·exact hk' _ _ (nC _ _ hc') q
  refine⟨_,rfl,wpAny_letOwnedTupleGo_enum (s:={ s with heap:=h',toks:=s.toks+1 }) ho fun h'' hE'' hs''=>?_⟩
  have hpe:s.heap.objs.size≠e:=Nat.ne_of_gt (Heap.lt_size hE)
  have I2:Inv X pins σ (upd H s.heap.objs.size (.tup [.int (i:Int),x])) { s with heap:=h'',toks:=s.toks+1 }:=Inv.turned (s:={ s with heap:=h',toks:=s.toks+1 }) (t':=s.toks+1) I1 (fun b o hb ee=>hs''.extBut b o hb ee) (by rw [Qw (Ne.symm hpe)]; exact fe.1) fe.2.1 fe.2.2.2.1 fe.2.2.2.2.1 fe.2.2.2.2.2
  have e2:(i:Int)+1=((i+1:Nat):Int):=by omega
  rw [e2] at hE''
  refine⟨.ref s.heap.objs.size,_,I2,rfl,⟨_,x,hp,rfl,rfl,fun xs' q=>by rw [I.list_inj q q1]; exact hx⟩,⟨⟨_,hE''⟩,hit'.at fun o ee=>hs''.extBut _ o (Ne.symm hei) ee⟩,fun b hb=>?_⟩
  have lt:b<s.heap.objs.size:=by
   have hb':b=e∨b=it:=by simpa using hb
   rcases hb' with rfl | rfl
   ·exact Heap.lt_size hE
   ·obtain⟨o,eo,_⟩:=hI
    exact Heap.lt_size eo
  rw [Qw (Nat.ne_of_lt lt)]
  exact(hf b hb).1
 done:=by
  intro X hP hw hK hc i pins s σ H E I hf st hg
  subst hP hw hK
  obtain⟨xs,q1,hl⟩:=hg
  obtain⟨its,r1,p1,hz1⟩:=I.list q1
  have hlen:=r1.length
  obtain⟨⟨old,hE⟩,hI⟩:=st
  obtain⟨f0,f1,f2,f3,f4,f5⟩:=hf it (by simp)
  exact wpAny_pyNext_enum_end (I.ok.hd hc) hE hI p1.isList (Array.getElem?_eq_none (by simp; omega)) fun h' eb=>⟨rfl,I.turned (t':=s.toks) (fun b o hb ee=>eb b o hb ee) f0 f1 f3 f4 f5⟩
 self:=fun _ _ _ _ _ st h=>by
  obtain⟨⟨old,hE⟩,_⟩:=st
  exact wpAny_pyIter_enum hE h
section
variable {X:Cx} {ca:Nat->Addr} {e1:Expr} {m1:ME} {p pos tp:Pos} {elts:List Expr} {kk:Nat}
theorem QiB {ta:TA} (hg:Gl X "enumerate") (hm:X.mg "enumerate" = none) (ha:PA X [e1] ta) (hs:starEach [e1] X.env=[(false,eval e1 X.env)]) :
  PI X (.Tuple elts kk tp) (.Call (.Name "enumerate" p) [e1] [] pos) (fun σ H R=>ta σ H fun vs H1=>∃ a xs,vs=[.ref a]∧SqL X.K H1 a xs∧R (Ite X.K a) H1):=by
 intro pins s σ H R I h
 refine Call_ (Qbh I hg hm boot_enumerate (PyProof.Rows.callWith_type1 (thn (ha pos pins s σ H _ I h) fun us s1 ⟨vs,H1,I1,r1,q1⟩=>?_) hs rfl))
 obtain⟨a,xs,rfl,hq,q⟩:=q1
 cases r1 with
 | cons ru rr =>
  cases rr
  cases ru
  obtain⟨its,v1,p1,hz⟩:=I1.list hq
  refine call_enumerate_list p1.isList fun h' hE hI hsz hk=>wpAny_pyIter_enum hE ?_
  have I2:Inv X pins σ H1 { s1 with heap:=h' }:=I1.kept (t':=s1.toks) hk
  refine⟨s1.heap.objs.size+1,_,_,_,H1,rfl,I2,QfO _ s1.heap.objs.size a (Nat.succ_ne_self _),⟨⟨_,hE⟩,hI⟩,fun b hb=>?_,q⟩
  have hb':b=s1.heap.objs.size+1∨b=s1.heap.objs.size:=by simpa using hb
  have hle:s1.heap.objs.size≤b:=by rcases hb' with h | h <;> rw [h] <;> first | exact Nat.le_refl _ | exact Nat.le_add_right _ _
  exact I1.fpOk hle (I1.hok.fresh hle)
theorem QgQ {K:PySem.W.Frag} {μ:List Addr} {H:Hp} {g:G} {v1:V} {d1:D} {xs:List D} {t:Nat} (q1:Den K μ H v1 d1) (h1:Qr g d1=some (true,xs)) {a1:Addr} (e1:v1=.ref a1) :
  Sim K ca μ H ⟨fun g i=>(match Qr g d1 with
  | some (_,es)=>(match es[i]? with
   | some x=>some (some (.tup [.int i,x]))
   | none=>some none)
  | none=>none),t⟩ (Ite K a1):=by
 intro i H1 μ1 g1 ex r
 dsimp only
 cases k1:Qr g1 d1 with
 | none=>trivial
 | some p1 =>
  obtain⟨c1,xs1⟩:=p1
  have f1:=JN (K:=K) (μ:=μ) (H:=H) (μ':=μ) (H':=H) (v:=v1) h1 k1
  subst f1
  obtain⟨z1,vs,w1,s1,d1s⟩:=Yd r (q1.mono ex) k1
  rw [e1] at w1; cases w1
  dsimp only
  cases hx:xs1[i]? with
  | none =>
   refine⟨vs,s1,?_⟩
   rw [d1s.length]; exact List.getElem?_eq_none_iff.mp hx
  | some x =>
   obtain⟨vx,hvx,qx⟩:=d1s.get hx
   refine⟨⟨vs,vx,s1,hvx⟩,fun v H' yl=>?_⟩
   obtain⟨pp,x',hp,rfl,rfl,u1⟩:=yl
   have:=u1 vs s1
   rw [hvx] at this; cases this
   exact⟨QU hp,r.new hp,.tup (.of Qt) (.cons (.int _) (.cons (qx.mono (QU hp)) .nil))⟩
theorem QgR (hm:X.mg "enumerate" = none) (h1:PE3 ca X e1 m1) (hg:Gl X "enumerate":=by rfl) (hs:starEach [e1] X.env=[(false,eval e1 X.env)]:=by rfl):PI3 ca X (.Tuple elts kk tp) (.Call (.Name "enumerate" p) [e1] [] pos) (JR m1) :=
 fun pn Φ=>QbK (QiB (X:=xat X ca pn Φ) hg hm (Jw h1 Qk hs pn Φ) hs) fun σ H R hQ=>by
  obtain⟨σ3,g,μ,Rp,q⟩:=hQ
  refine⟨σ3,g,μ,Rp,?_⟩
  unfold JR at q
  unfold Qa mNil
  cases hm1:m1 σ3 g with
  | raise _ _=>rw [hm1] at q; exact q
  | stuck=>rw [hm1] at q; exact q.elim
  | ok d1 g1 =>
   rw [hm1,Res.bind_ok] at q
   rw [Res.bind_ok,Res.bind_ok]
   intro vs H1 μ1 ex r1 q1
   unfold Qdk at q
   cases hs1:Qr g1 d1 with
   | none=>rw [hs1] at q; exact q.elim
   | some p1 =>
    obtain⟨b,ds⟩:=p1
    rw [hs1] at q
    cases b with
    | false=>exact q.elim
    | true =>
     cases q1 with
     | @cons v _ _ _ n1 q1 =>
      cases q1
      obtain⟨a,ws,rfl,sq,dn⟩:=Yd r1 n1 hs1
      exact⟨a,ws,rfl,sq,q _ H1 μ1 ex r1 (QgQ n1 hs1 rfl)⟩
end
end L3
end
section
namespace PySem
open Sem (wp)
namespace F
end F
section
variable {prog:Program} {w:World} {A:Around} {E:Value->Shared->Prop} {s:Shared} {I:Addr} {fp wr:List Addr} {G:Array GenState->Array GenState->Prop} {n:Nat} {P:Nat->Value->Prop} {St:Nat->Shared->Prop}
end
end PySem
end
section
namespace L3
open PySem
end L3
end
section
namespace L3
open PySem PySem.Spec PyProof.Rows L2
section
variable {X:Cx} {ca:Nat->Addr} {e:Expr} {me:ME} {p p2 pos pos2:Pos}
end
end L3
end
section
namespace L3
open PySem PySem.Spec PyProof.Rows L2
end L3
end
section
namespace L2
open PySem PySem.Spec PyProof.Rows
section
variable {κ:Type} [DecidableEq κ]
noncomputable def valV (kvs:List (κ×V)) (k:κ):Option V:=(kvs.find? fun kv=>decide (kv.1=k)).map (·.2)
noncomputable def putK (kvs:List (κ×V)) (k:κ) (v:V):List (κ×V) :=
 if (kvs.any fun kv=>decide (kv.1=k))=true then kvs.map (fun kv=>if kv.1=k then (kv.1,v) else kv) else kvs++[(k,v)]
noncomputable def QgS (kvs:List (κ×V)) (k:κ):List (κ×V):=kvs.filter fun kv=>decide (kv.1≠k)
theorem QdX {p:κ×V} {r:List (κ×V)} {k:κ} (e:p.1=k):valV (p::r) k=some p.2:=by simp [valV,List.find?_cons,e]
theorem QdY {p:κ×V} {r:List (κ×V)} {k:κ} (e:¬ p.1=k):valV (p::r) k=valV r k:=by simp [valV,List.find?_cons,e]
theorem Qdl (kvs:List (κ×V)) (k:κ) (v:V):(putK kvs k v).length≤kvs.length+1:=by
 unfold putK
 split
 ·rw [List.length_map]; omega
 ·rw [List.length_append,List.length_cons,List.length_nil]; omega
theorem RelO.getD {o:Option V} {u:Option Value} {d:V} {d':Value} (r:RelO o u) (rd:RelV d d'):RelV (o.getD d) (u.getD d'):=by
 cases o with
 | none=>cases u with
  | none=>exact rd
  | some _=>exact(show False from r).elim
 | some _=>cases u with
  | none=>exact(show False from r).elim
  | some _=>exact r
theorem KV.val {kvs:List (κ×V)} {vs:List (κ×Value)} (r:KV kvs vs) (k:κ):RelO (valV kvs k) (valueAt vs k):=by
 unfold KV at r
 induction r with
 | nil=>exact True.intro
 | @cons p q ps qs h t ih =>
  obtain⟨h1,h2⟩:=h
  by_cases e:p.1=k
  ·have e':q.1=k:=h1.symm.trans e
   have b:valueAt (q::qs) k=some q.2:=by simp [valueAt,List.find?_cons,e']
   rw [QdX e,b]; exact h2
  ·have e':¬ q.1=k:=fun z=>e (h1.trans z)
   have b:valueAt (q::qs) k=valueAt qs k:=by simp [valueAt,List.find?_cons,e']
   rw [QdY e,b]; exact ih
theorem KV.any {kvs:List (κ×V)} {vs:List (κ×Value)} (r:KV kvs vs) (k:κ):(kvs.any fun kv=>decide (kv.1=k))=vs.any fun kv=>decide (kv.1=k):=by
 unfold KV at r
 induction r with
 | nil=>rfl
 | cons h t ih=>rw [List.any_cons,List.any_cons,ih,h.1]
theorem KV.repl {kvs:List (κ×V)} {vs:List (κ×Value)} (r:KV kvs vs) (k:κ) {y:V} {u:Value} (ry:RelV y u) :
  KV (kvs.map fun kv=>if kv.1=k then (kv.1,y) else kv) (vs.map fun kv=>if kv.1=k then (kv.1,u) else kv):=by
 unfold KV at r ⊢
 induction r with
 | nil=>exact .nil
 | @cons p q ps qs h t ih =>
  rw [List.map_cons,List.map_cons]
  refine .cons ?_ ih
  obtain⟨h1,h2⟩:=h
  by_cases e:p.1=k
  ·rw [if_pos e,if_pos (h1.symm.trans e)]; exact⟨h1,ry⟩
  ·rw [if_neg e,if_neg (fun z=>e (h1.trans z))]; exact⟨h1,h2⟩
theorem KV.put {kvs:List (κ×V)} {vs:List (κ×Value)} (r:KV kvs vs) (k:κ) {y:V} {u:Value} (ry:RelV y u):KV (putK kvs k y) (stored vs k u):=by
 unfold putK stored
 rw [r.any k]
 by_cases e:(vs.any fun kv=>decide (kv.1=k))=true
 ·rw [if_pos e,if_pos e]; exact r.repl k ry
 ·rw [if_neg e,if_neg e]; exact Paired.snoc r ⟨rfl,ry⟩
theorem KV.drop {kvs:List (κ×V)} {vs:List (κ×Value)} (r:KV kvs vs) (k:κ):KV (QgS kvs k) (without vs k):=by
 unfold KV at r ⊢
 unfold QgS without
 induction r with
 | nil=>exact .nil
 | @cons p q ps qs h t ih =>
  obtain⟨h1,h2⟩:=h
  rw [List.filter_cons,List.filter_cons]
  by_cases e:p.1=k
  ·have a:¬ decide (p.1≠k)=true:=by simp [e]
   have b:¬ decide (q.1≠k)=true:=by simp [h1.symm.trans e]
   rw [if_neg a,if_neg b]; exact ih
  ·have e':¬ q.1=k:=fun z=>e (h1.trans z)
   have a:decide (p.1≠k)=true:=by simp [e]
   have b:decide (q.1≠k)=true:=by simp [e']
   rw [if_pos a,if_pos b]; exact .cons ⟨h1,h2⟩ ih
theorem KV.length {kvs:List (κ×V)} {vs:List (κ×Value)} (r:KV kvs vs):kvs.length=vs.length:=Paired.length r
end
theorem Qkj {P:Program} {w:World} {k:Key} {u:Value} (r:RelV (kV k) u):(Yz P w).is k u=true:=by
 cases k with
 | inl i=>obtain⟨t,e⟩:=(show ∃ t,u=Value.int i t from r); subst e; exact Qc3 P w i t
 | inr x=>obtain⟨t,e⟩:=(show ∃ t,u=Value.str x t from r); subst e; exact Qc4 P w x t
section
variable {P:Program} {w:World} {H:Hp} {h:Heap} {a:Addr}
theorem Qk4 {u:HO} (ok:HOk P w H h) (e:Rd H a u):ObjOk P w H h a u:=e.ok ok
theorem Qk5 {kvs:List (Key×V)} (ok:HOk P w H h) (e:Rd H a (.dK kvs)):kvs.length≤sizeLine∧(a == sysModules)=false∧∃ vs,KV kvs vs∧h.DictOf (Yz P w) a vs :=
 show ObjOk P w H h a (.dK kvs) from Qk4 ok e
theorem QiC {kvs:List (Key×V)} (ok:HOk P w H h) (e:H a=some (.dK kvs)):kvs.length≤sizeLine∧(a == sysModules)=false∧∃ vs,KV kvs vs∧h.DictOf (Yz P w) a vs:=Qk5 ok (.inl e)
end
section
variable {X:Cx} {pins:List (Addr×Obj)} {σ:St} {H:Hp} {s:Shared} {a:Addr} {y v:V} {u r:Value} {o:Option V} {A:Around} {E:Value->Shared->Prop}
theorem Inv.big (I:Inv X pins σ H s):sysModules<s.heap.objs.size:=by
 have h:mainGlobals<s.heap.objs.size:=(I.mod.glob.keeps I.bk).lt
 exact Nat.lt_trans (by decide) h
theorem QiD {h':Heap} {t':Nat} {ob:HO} (I:Inv X pins σ H s) (mu:Mut (H a)) (hs:Heap.SameBut a s.heap h') (he:∃ q,h'.get? a=some q) (new:ObjOk X.prog X.w (upd H a ob) h' a ob) :
  Inv X pins σ (upd H a ob) { s with heap:=h',toks:=t' } :=
 I.write (x:=a) (e:=a) mu (.inl rfl) (fun b q hb z=>(hs.2 b hb).trans z) he new
theorem Qkk {P:Program} {w:World} {H':Hp} {h':Heap} {kvs:List (Key×V)} {vs:List (Key×Value)} (z:kvs.length≤sizeLine) (hd:(a == sysModules)=false) (rel:KV kvs vs) (dd:h'.DictOf (Yz P w) a vs) :
  ObjOk P w H' h' a (.dK kvs):=⟨z,hd,vs,rel,dd⟩
end
section
variable {X:Cx} {pins:List (Addr×Obj)} {σ:St} {H:Hp} {s:Shared} {a:Addr} {kvs:List (Key×V)} {k:Key} {u:Value} {A:Around} {E:Value->Shared->Prop}
end
section
variable {X:Cx} {o i e value:Expr} {pos pos' tpos:Pos} {td ty tv:TE}
end
theorem QgT {P:Program} {w:World} {H:Hp} (h:Heap) (hb:sysModules<h.objs.size):ObjOk P w H (h.push { cls:=.type "dict",data:=.dict #[] }) h.objs.size (.dK []) :=
 ⟨Nat.zero_le _,beq_eq_false_iff_ne.mpr (Ne.symm (Nat.ne_of_lt hb)),[],.nil,Heap.DictOf.new h⟩
noncomputable def Qkl:TE:=fun _ H Q=>∀ p,H p=none->Q (.ref p) (upd H p (.dK []))
section
variable {X:Cx} {pos:Pos}
theorem QgU:PE X (.Dict [] [] pos) Qkl:=fun pins s σ H Q I h =>
 wpAny_Dict_empty ⟨.ref s.heap.objs.size,_,I.laid (a:=s.heap.objs.size) (o:=.dK []) (t':=s.toks) (fun _ _ q=>Heap.get?_push_of_some _ q) (Nat.le_refl _) (QgT s.heap I.big),rfl,h _ (I.hok.fresh (Nat.le_refl _))⟩
end
section
variable {X:Cx} {pins:List (Addr×Obj)} {σ:St} {H:Hp} {s:Shared} {a:Addr} {y d:V} {u r:Value} {o:Option V} {A:Around} {E:Value->Shared->Prop}
end
section
variable {X:Cx} {o e f:Expr} {apos cpos:Pos} {td ty tx:TE}
end
section
variable {X:Cx} {pins:List (Addr×Obj)} {σ:St} {H:Hp} {s:Shared} {a:Addr} {kvs:List (Key×V)} {A:Around} {E:Value->Shared->Prop}
end
section
variable {X:Cx} {pins:List (Addr×Obj)} {σ:St} {H:Hp} {s:Shared} {a:Addr} {y:V} {u:Value} {A:Around} {E:Value->Shared->Prop}
end
end L2
end
section
namespace L3
open PySem
noncomputable abbrev DK:=Sum Int Str
noncomputable def dGet (ks:List (DK×D)) (k:DK):Option D:=(ks.find? fun p=>decide (p.1=k)).map (·.2)
noncomputable def dPut (ks:List (DK×D)) (k:DK) (v:D):List (DK×D):=if (ks.any fun p=>decide (p.1=k))=true then ks.map fun p=>if p.1=k then (p.1,v) else p else ks++[(k,v)]
noncomputable def Qkm (ks:List (DK×D)) (k:DK):List (DK×D):=ks.filter fun p=>decide (p.1≠k)
noncomputable def QiE:ME:=fun _ g=>.ok (.ref g.length) (g++[.dct []])
noncomputable def QfP (o k v:ME):MS:=fun σ g=>match v σ g with
 | .ok y g1=>(match o σ g1 with
  | .ok (.ref n) g2=>(match k σ g2 with
   | .ok (.int i) g3=>(match g3[n]? with
    | some (.dct ks)=>if ks.length<SZ then .nx σ (g3.set n (.dct (dPut ks (.inl i) y))) else .stuck
    | _=>.stuck)
   | .raise e g'=>.raise e σ g'
   | _=>.stuck)
  | .raise e g'=>.raise e σ g'
  | _=>.stuck)
 | .raise e g'=>.raise e σ g'
 | .stuck=>.stuck
end L3
end
section
namespace L3
open PySem PySem.Spec PyProof.Rows L2
section
variable {K:PySem.W.Frag} {μ:List Addr} {H:Hp}
theorem KRel.get {kv:List (Key×V)} {ks:List (Key×D)} (r:KRel K μ H kv ks) (k:Key):(valV kv k=none∧dGet ks k=none)∨∃ v d,valV kv k=some v∧dGet ks k=some d∧Den K μ H v d:=by
 unfold KRel at r
 induction r with
 | nil=>exact .inl ⟨rfl,rfl⟩
 | @cons p q ps qs h t ih =>
  obtain⟨h1,h2⟩:=h
  by_cases e:p.1=k
  ·refine .inr ⟨p.2,q.2,QdX e,?_,h2⟩
   unfold dGet; rw [List.find?_cons,decide_eq_true (h1.symm.trans e)]; rfl
  ·have e':dGet (q::qs) k=dGet qs k:=by
    unfold dGet; rw [List.find?_cons,decide_eq_false (fun z=>e (h1.trans z))]
   rw [QdY e,e']; exact ih
theorem KRel.put {kv:List (Key×V)} {ks:List (Key×D)} {v:V} {d:D} (r:KRel K μ H kv ks) (k:Key) (h:Den K μ H v d):KRel K μ H (putK kv k v) (dPut ks k d):=by
 have ha:(kv.any fun p=>decide (p.1=k))=ks.any fun p=>decide (p.1=k):=by
  unfold KRel at r
  induction r with
  | nil=>rfl
  | cons h t ih=>rw [List.any_cons,List.any_cons,ih,h.1]
 unfold putK dPut
 rw [ha]
 by_cases e:(ks.any fun p=>decide (p.1=k))=true
 ·rw [if_pos e,if_pos e]
  clear ha e
  unfold KRel at r ⊢
  induction r with
  | nil=>exact .nil
  | @cons p q ps qs hp t ih =>
   rw [List.map_cons,List.map_cons]
   refine .cons ?_ ih
   obtain⟨h1,h2⟩:=hp
   by_cases e:p.1=k
   ·rw [if_pos e,if_pos (h1.symm.trans e)]; exact⟨h1,h⟩
   ·rw [if_neg e,if_neg (fun z=>e (h1.trans z))]; exact⟨h1,h2⟩
 ·rw [if_neg e,if_neg e]; exact Paired.snoc r ⟨rfl,h⟩
theorem KRel.drop {kv:List (Key×V)} {ks:List (Key×D)} (r:KRel K μ H kv ks) (k:Key):KRel K μ H (QgS kv k) (Qkm ks k):=by
 unfold KRel at r ⊢
 unfold QgS Qkm
 induction r with
 | nil=>exact .nil
 | @cons p q ps qs h t ih =>
  obtain⟨h1,h2⟩:=h
  rw [List.filter_cons,List.filter_cons,← h1]
  by_cases e:decide (p.1≠k)=true
  ·rw [if_pos e,if_pos e]; exact .cons ⟨h1,h2⟩ ih
  ·rw [if_neg e,if_neg e]; exact ih
end
section
variable {X:Cx}
theorem QgV:PSet X (fun o i v H Q=>∃ a kvs k,o=.ref a∧i=kV k∧H a=some (.dK kvs)∧kvs.length<sizeLine∧Q (upd H a (.dK (putK kvs k v)))):=by
 intro pins s σ H o i v ov iv u Q I ro ri rv h
 obtain⟨a,kvs,k,rfl,rfl,e,l,q⟩:=h
 cases ro
 obtain⟨z,hd,vs,rel,dd⟩:=QiC I.hok e
 have hz:vs.length≤sizeLine:=by rw [← rel.length]; exact z
 have hl:(putK kvs k v).length≤sizeLine:=by have:=Qdl kvs k v; omega
 refine wpAny_setItem_pairs (hsz:=hz) (Qkj ri) dd fun h' dd' hs=>?_
 have he:∃ q,h'.get? a=some q:=let ⟨q,_,_,hq,_⟩:=dd'; ⟨q,hq⟩
 exact⟨_,QiD I (by rw [e]; exact True.intro) hs he (Qkk hl hd (rel.put k rv) dd'),q⟩
end
section
variable {X:Cx} {ca:Nat->Addr} {o e f:Expr} {mo me mf:ME} {p pos apos:Pos}
theorem Qkn:PE3 ca X (.Dict [] [] pos) QiE :=
 fun pn Φ=>Zn (QgU (X:=xat X ca pn Φ)) fun σ H Q ⟨σ3,g,μ,R,q⟩=>fun t ht=>q _ _ (μ++[t]) (QD ht) (R.g.push ht ⟨[],Qt,.nil⟩) (.ref (by rw [← R.g.len]; simp))
theorem Qko {i:Expr} {mi:ME} {pos':Pos} (ho:PE3 ca X o mo) (hi:PE3 ca X i mi) (he:PE3 ca X e me) (hs:swapsWithSole [.Subscript o i pos'] e pos.line X.env=pure false:=by rfl)
  (hw:swappedStores [.Subscript o i pos'] e X.env=pure none:=by rfl) (h1:(assignEach [.Subscript o i pos'] X.env).map (·.2)=[assign (.Subscript o i pos') X.env]:=by rfl)
  (ha:∀ v,assign (.Subscript o i pos') X.env v=(do
   let ov ← holding [v] (eval o X.env)
   let iv ← holding [v,ov] (eval i X.env)
   standAt pos'
   holding [v,ov,iv] (setItem ov iv v)
   release [v,ov,iv] []):=by intro _; rfl):PS3 ca X (.Assign [.Subscript o i pos'] e pos) (QfP mo mi me) :=
 fun pn Φ=>YA (QeU (X:=xat X ca pn Φ) (he pn Φ) (Qhk (X:=xat X ca pn Φ) (ho pn Φ) (hi pn Φ) QgV ha) hs hw h1) fun E σ H ⟨σ3,g,μ,R,p⟩=>⟨σ3,g,μ,R,by
  unfold QfP at p
  cases hm:me σ3 g with
  | ok y g1 =>
   rw [hm] at p
   dsimp only at p
   intro vy H1 μ1 e1 r1 q1
   refine⟨σ3,g1,μ1,R.go e1 r1,?_⟩
   cases hm2:mo σ3 g1 with
   | ok d g2 =>
    rw [hm2] at p
    intro vx H2 μ2 e2 r2 q2
    cases q2 with
    | @ref n a hn =>
     dsimp only at p
     refine⟨σ3,g2,μ2,R.go (e1.trans e2) r2,?_⟩
     cases hm3:mi σ3 g2 with
     | ok di g3 =>
      rw [hm3] at p
      intro vi H3 μ3 e3 r3 q3
      cases q3 with
      | int k =>
       dsimp only at p
       cases hg:g3[n]? with
       | none=>rw [hg] at p; exact p.elim
       | some ob =>
        rw [hg] at p
        obtain⟨a',ha',orp⟩:=r3.addr hg
        rw [e3.at hn] at ha'; cases ha'
        cases ob with
        | dct ks =>
         dsimp only at p
         obtain⟨kv,hH,q⟩:=orp
         by_cases z:ks.length<SZ
         ·rw [if_pos z] at p
          have ex:Ext X.K μ3 H3 μ3 (upd H3 a (.dK (putK kv (.inl k) vy))):=Jj hH (by intro _ z; cases z) (by intro _ _ z; cases z)
          refine⟨a,kv,.inl k,rfl,rfl,hH,by rw [Paired.length q]; exact Nat.lt_of_lt_of_le z Z5,?_⟩
          refine p σ _ μ3 (((e1.trans e2).trans e3).trans ex) ((R.go ((e1.trans e2).trans e3) r3).go ex ?_)
          exact r3.set (e3.at hn) hH (by intro _ z; cases z) (by intro _ _ z; cases z) ⟨_,Qt,(q.mono ex).put _ (((q1.mono e2).mono e3).mono ex)⟩
         ·rw [if_neg z] at p; exact p.elim
        | _=>exact p.elim
      | _=>exact p.elim
     | raise _ _=>rw [hm3] at p; exact(RaP.stmt R p).go (e1.trans e2)
     | stuck=>rw [hm3] at p; exact p
    | _=>exact p.elim
   | raise _ _=>rw [hm2] at p; exact(RaP.stmt R p).go e1
   | stuck=>rw [hm2] at p; exact p
  | raise _ _=>rw [hm] at p; exact RaP.stmt R p
  | stuck=>rw [hm] at p; exact p⟩
end
end L3
end
section
namespace L3
open PySem
noncomputable def YS (o e:ME):ME:=fun σ g=>(o σ g).bind fun x g1=>match x with
 | .ref n=>(match g1[n]? with
  | some (.lst _)=>(e σ g1).bind fun y g2=>(match y with
   | .ref m=>(match g2[n]?,g2[m]? with
    | some (.lst ds),some (.lst es)=>if n≠m∧ds.length+es.length≤SZ then .ok .non (g2.set n (.lst (ds++es))) else .stuck
    | _,_=>.stuck)
   | .tup es=>(match g2[n]? with
    | some (.lst ds)=>if ds.length+es.length≤SZ then .ok .non (g2.set n (.lst (ds++es))) else .stuck
    | _=>.stuck)
   | _=>.stuck)
  | _=>.stuck)
 | _=>.stuck
noncomputable def JS:List (DK×D)->Option (List Int)
 | []=>some []
 | (.inl i,_)::r=>(JS r).map (i :: ·)
 | _::_=>none
noncomputable def Qdm (x:D) (g:G):Res D:=match x with
 | .ref n=>(match g[n]? with
  | some (.dct ks)=>(match JS ks with
   | some is=>if is.length≤100000 then .ok (.ref g.length) (g++[.lst (is.map .int)]) else .stuck
   | none=>.stuck)
  | _=>.stuck)
 | _=>.stuck
noncomputable def pDIx (x y:D) (g:G):Res D:=match x,y with
 | .ref n,.int i=>(match g[n]? with
  | some (.dct ks)=>(match dGet ks (.inl i) with
   | some v=>.ok v g
   | none=>.stuck)
  | _=>.stuck)
 | _,_=>.stuck
end L3
end
section
namespace L3
open PySem PySem.Spec PyProof.Rows L2
section
variable {X:Cx}
theorem QiF {i:Int} {v:Value} (h:Qc2 (.inl i) v=true):∃ t,v=.int i t:=by
 rcases QX h with⟨j,t,e1,e2⟩ | ⟨x,t,e1,e2⟩
 ·cases e1; exact⟨t,e2⟩
 ·cases e1
theorem QiG {kvs:List (Key×V)} {vs:List (Key×Value)} (rel:KV kvs vs):kvs.map (·.1)=vs.map (·.1):=by
 unfold KV at rel
 induction rel with
 | nil=>rfl
 | cons h t ih=>rw [List.map_cons,List.map_cons,ih,h.1]
theorem QfQ (hc:X.calm=true):CallR X (.type "list") (fun xs H Q=>∃(a:Addr) (kvs:List (Key×V)) (is:List Int),xs=[.ref a]∧H a=some (.dK kvs)∧kvs.map (·.1)=is.map Sum.inl∧∀ l,H l=none->Q (.ref l) (upd H l (.lst (is.map V.int)))):=by
 intro pins s σ H xs us Q I rv h
 obtain⟨a,kvs,is,rfl,e,hk,q⟩:=h
 obtain⟨u,rfl,ru⟩:=rv.one
 cases ru
 obtain⟨z,hd,vs,rel,dd⟩:=QiC I.hok e
 obtain⟨ep,hat⟩:=dd.dictAt
 have hl:vs.length=is.length:=by rw [← rel.length,← List.length_map (f:=fun p:Key×V=>p.1),hk,List.length_map]
 have hkv:kvs.length=is.length:=by rw [rel.length,hl]
 refine PySem.W.kdl_call (PySem.W.kdl_dict (knd:=Yz X.prog X.w) (kvs:=vs) (ep:=ep) hd) (I.ok.hd hc) hat (by rw [← rel.length]; exact z) fun h' tk acc' c' kp hD hacc=>?_
 refine⟨.ref s.heap.objs.size,_,I.laid (a:=s.heap.objs.size) (o:=.lst (is.map V.int)) (t':=tk) kp (Nat.le_refl _) (show ObjOk X.prog X.w _ _ _ (.lst (is.map V.int)) from ⟨by rw [List.length_map,← hkv]; exact z,acc'.toList,c',?_,hD⟩),rfl,q _ (I.hok.fresh (Nat.le_refl _))⟩
 have key:∀(ws:List Value) (js:List Int),ws.length=js.length->(∀(j:Nat) (v:Value) (i:Int),ws[j]?=some v->js[j]?=some i->∃ t,v=Value.int i t)->Vals (js.map V.int) ws:=by
  intro ws
  induction ws with
  | nil=>intro js h1 _; cases js with
   | nil=>exact .nil
   | cons _ _=>cases h1
  | cons w ws ih =>
   intro js h1 h2
   cases js with
   | nil=>cases h1
   | cons i js=>exact .cons (h2 0 w i rfl rfl) (ih js (by simpa using h1) fun j v k a b=>h2 (j+1) v k a b)
 refine key _ _ (by rw [Array.length_toList,hacc.1,hl]) fun j v i hv hi=>?_
 obtain⟨k,x,hx,hkk⟩:=hacc.2 j v (by rw [← Array.getElem?_toList]; exact hv)
 have h1:(vs.map (·.1))[j]?=some k:=by rw [List.getElem?_map,hx]; rfl
 have hkeys:=QiG rel
 rw [← hkeys,hk,List.getElem?_map,hi] at h1
 cases h1
 exact QiF hkk
theorem QgW:IxR X (fun x y H Q=>∃ a kvs k v,x=.ref a∧y=kV k∧H a=some (.dK kvs)∧valV kvs k=some v∧Q v H):=by
 intro value slice pins s σ H x y v u Q I rx ry h hs
 obtain⟨a,kvs,k,w,rfl,rfl,e,l,q⟩:=h
 cases rx
 obtain⟨z,hd,vs,rel,dd⟩:=QiC I.hok e
 obtain⟨w',hw,rw'⟩:=RelO.some_of (v:=w) (o:=valueAt vs k) (by rw [← l]; exact rel.val k)
 exact tail_any dd.typeIs PySem.F.slot_dict_getitem.lookup (wpAny_getItem_of (Qkj ry) dd.mapOf hw ⟨_,H,I.tok _,rw',q⟩) hs
end
section
variable {X:Cx} {ca:Nat->Addr} {a b e f o:Expr} {ma mb me mf mo:ME} {p pos apos:Pos}
theorem QgX {K:PySem.W.Frag}:Je K ca (fun x y H Q=>∃ a kvs k v,x=.ref a∧y=kV k∧H a=some (.dK kvs)∧valV kvs k=some v∧Q v H) pDIx:=by
 intro Φ σ H μ g x y dx dy Q r qx qy p
 unfold pDIx at p
 cases qx with
 | @ref n t hn =>
  cases qy with
  | int i =>
   dsimp only at p
   cases hg:g[n]? with
   | none=>rw [hg] at p; exact p.elim
   | some ob =>
    rw [hg] at p
    obtain⟨t',ht',orp⟩:=r.addr hg
    rw [hn] at ht'; cases ht'
    cases ob with
    | dct ks =>
     obtain⟨kv,hH,q⟩:=orp
     dsimp only at p
     rcases q.get (.inl i) with⟨a,b⟩ | ⟨v,d,a,b,c⟩
     ·rw [b] at p; exact p.elim
     ·rw [b] at p
      exact⟨t,kv,.inl i,v,rfl,rfl,hH,a,p v H μ .refl r c⟩
    | _=>exact p.elim
  | _=>exact p.elim
 | _=>cases qy <;> exact p.elim
theorem Qk6 (ha:PE3 ca X a ma) (hb:PE3 ca X b mb) (hs:QbH b:=by exact fun _ _=>rfl):PE3 ca X (.Subscript a b pos) (mOp2 pDIx ma mb):=r_ix (fun _ _=>QgW) QgX ha hb hs
theorem KRel.keys {K:PySem.W.Frag} {μ:List Addr} {H:Hp} {kv:List (Key×V)} {ks:List (Key×D)} (r:KRel K μ H kv ks):kv.map (·.1)=ks.map (·.1):=by
 unfold KRel at r
 induction r with
 | nil=>rfl
 | cons h t ih=>rw [List.map_cons,List.map_cons,ih,h.1]
theorem QcR:∀ {ks:List (Key×D)} {is:List Int},JS ks=some is->ks.map (·.1)=is.map Sum.inl
 | [],_,h=>by cases h; rfl
 | (.inl i,_)::r,is,h=>by
  have h:(JS r).map (i :: ·)=some is:=h
  obtain⟨js,h1,h2⟩:=Option.map_eq_some_iff.mp h
  subst h2
  rw [List.map_cons,List.map_cons,QcR h1]
theorem Qkp (hc:X.calm=true) (hm:X.mg "list" = none) (he:PE3 ca X e me) (hg:Gl X "list":=by rfl) (hs:starEach [e] X.env=[(false,eval e X.env)]:=by rfl) (hpl:(backTo pos (starEach [] X.env)).any (·.1)=false:=by rfl) :
  PE3 ca X (.Call (.Name "list" p) [e] [] pos) (mOp1 Qdm me) :=
 r_ty (fun pn Φ=>QfQ (X:=xat X ca pn Φ) hc) hm boot_list (fun Φ σ H μ g y d Q r q pp=>by
  unfold Qdm at pp
  cases q with
  | @ref n t hn =>
   dsimp only at pp
   cases hgn:g[n]? with
   | none=>rw [hgn] at pp; exact pp.elim
   | some ob =>
    rw [hgn] at pp
    obtain⟨t',ht',orp⟩:=r.addr hgn
    rw [hn] at ht'; cases ht'
    cases ob with
    | dct ks =>
     obtain⟨kv,hH,q⟩:=orp
     dsimp only at pp
     cases hk:JS ks with
     | none=>rw [hk] at pp; exact pp.elim
     | some is =>
      rw [hk] at pp
      dsimp only at pp
      by_cases z:is.length≤100000
      ·rw [if_pos z] at pp
       have e1:kv.map (·.1)=ks.map (·.1):=q.keys
       exact⟨t,kv,is,rfl,hH,by rw [e1]; exact QcR hk,fun l hl=>pp _ _ (μ++[l]) (QD hl) (r.push hl ⟨_,Qt,Qdj _⟩) (.ref (by rw [← r.len]; simp))⟩
      ·rw [if_neg z] at pp; exact pp.elim
    | _=>exact pp.elim
  | _=>exact pp.elim) he hg (by decide) (by decide) hs hpl
theorem QbZ (ho:PE3 ca X o mo) (he:PE3 ca X e me) (hbase:attributeBase o "extend" X.env (eval o X.env)=eval o X.env:=by rfl)
  (hfew:((backTo pos (starEach [e] X.env)).all (fun x=>!x.1) && (backToKw pos (keywordEach [] X.env)).all (fun x=>x.1.isSome) && decide ([e].length+([]:List Keyword).length+(if ([]:List Keyword).isEmpty then 0 else 1)<30))=true:=by rfl)
  (hline:(apos.endLine == pos.line)=true:=by rfl) (hs:starEach [e] X.env=(false,eval e X.env)::starEach [] X.env:=by rfl) (hplain:(backTo pos (starEach [] X.env)).any (·.1)=false:=by rfl) :
  PE3 ca X (.Call (.Attribute o "extend" apos) [e] [] pos) (YS mo me) :=
 fun pn Φ=>Zn (Qjy (X:=xat X ca pn Φ) PySem.F.plainAttrs_list PySem.F.slot_list_extend PySem.F.type_list_extend Qeo (ho pn Φ) (Jw he Qk hs pn Φ) hbase hfew hline hs hplain) fun σ H Q ⟨σ3,g,μ,R,q⟩=>Zr (Qab R q) fun x H1 hQ=>by
  obtain⟨d,g1,μ1,e1,R1,q1,p1⟩:=hQ
  cases q1 with
  | @ref n t hn =>
   dsimp only at p1
   cases hgn:g1[n]? with
   | none=>rw [hgn] at p1; exact p1.elim
   | some ob =>
    rw [hgn] at p1
    obtain⟨t',ht',orp⟩:=R1.g.addr hgn
    rw [hn] at ht'; cases ht'
    cases ob with
    | lst ds0 =>
     obtain⟨vs0,hH0,_⟩:=orp
     dsimp only at p1
     refine⟨.inl ⟨rfl,_,.of hH0⟩,σ3,g1,μ1,R1,?_⟩
     unfold Qa mNil
     cases hm:me σ3 g1 with
     | raise _ _=>rw [hm] at p1; exact p1
     | stuck=>rw [hm] at p1; exact p1.elim
     | ok y g2 =>
      rw [hm,Res.bind_ok] at p1
      rw [Res.bind_ok,Res.bind_ok]
      intro vs H2 μ2 e2 r2 q2
      cases q2 with
      | cons h1 h2 =>
       cases h2
       cases h1 with
       | @ref m c hmm =>
        dsimp only at p1
        cases hg2:g2[n]? with
        | none=>rw [hg2] at p1; exact p1.elim
        | some ob2 =>
         cases hg3:g2[m]? with
         | none=>rw [hg2,hg3] at p1; cases ob2 <;> exact p1.elim
         | some ob3 =>
          rw [hg2,hg3] at p1
          obtain⟨t',ht',orp⟩:=r2.addr hg2
          rw [e2.at hn] at ht'; cases ht'
          obtain⟨c',hc',orp3⟩:=r2.addr hg3
          rw [hmm] at hc'; cases hc'
          cases ob2 with
          | lst ds =>
           cases ob3 with
           | lst es =>
            obtain⟨ws,hH,qs⟩:=orp
            obtain⟨zs,hH3,qz⟩:=orp3
            dsimp only at p1
            by_cases z:n≠m∧ds.length+es.length≤SZ
            ·rw [if_pos z] at p1
             have ex:Ext X.K μ2 H2 μ2 (upd H2 t (.lst (ws++zs))):=Jj hH (by intro _ z; cases z) (by intro _ _ z; cases z)
             refine .inl ⟨t,c,ws,zs,rfl,rfl,hH,hH3,by rw [qs.length,qz.length]; exact Nat.le_trans z.2 Z5,p1 _ _ μ2 (e2.trans ex) ?_ .non⟩
             exact r2.set (e2.at hn) hH (by intro _ z; cases z) (by intro _ _ z; cases z) ⟨_,Qt,(qs.mono ex).append (qz.mono ex)⟩
            ·rw [if_neg z] at p1; exact p1.elim
           | _=>exact p1.elim
          | _=>cases ob3 <;> exact p1.elim
       | @tup c zs es hc qz =>
        dsimp only at p1
        cases hg2:g2[n]? with
        | none=>rw [hg2] at p1; exact p1.elim
        | some ob2 =>
         rw [hg2] at p1
         obtain⟨t',ht',orp⟩:=r2.addr hg2
         rw [e2.at hn] at ht'; cases ht'
         cases ob2 with
         | lst ds =>
          obtain⟨ws,hH,qs⟩:=orp
          dsimp only at p1
          by_cases z:ds.length+es.length≤SZ
          ·rw [if_pos z] at p1
           have ex:Ext X.K μ2 H2 μ2 (upd H2 t (.lst (ws++zs))):=Jj hH (by intro _ z; cases z) (by intro _ _ z; cases z)
           refine .inr ⟨t,c,ws,zs,rfl,rfl,hH,hc,by rw [qs.length,qz.length]; exact Nat.le_trans z Z5,p1 _ _ μ2 (e2.trans ex) ?_ .non⟩
           exact r2.set (e2.at hn) hH (by intro _ z; cases z) (by intro _ _ z; cases z) ⟨_,Qt,(qs.mono ex).append (qz.mono ex)⟩
          ·rw [if_neg z] at p1; exact p1.elim
         | _=>exact p1.elim
       | _=>exact p1.elim
    | _=>exact p1.elim
  | _=>exact p1.elim
end
end L3
end
section
namespace L3
open PySem
noncomputable def QdZ (x:D) (g:G):Res D:=match x with
 | .ref n=>(match g[n]? with
  | some (.lst _)=>.ok .non (g.set n (.lst []))
  | _=>.stuck)
 | _=>.stuck
end L3
end
section
namespace L3
open PySem PySem.Spec PyProof.Rows L2
section
variable {X:Cx} {ca:Nat->Addr} {o:Expr} {mo:ME} {pos apos:Pos}
theorem mt_clear:MtM X "list.clear" (fun x vs H Q=>∃ l xs,x=.ref l∧vs=[]∧H l=some (.lst xs)∧Q .non (upd H l (.lst []))):=by
 intro pins s σ H x vs v us Q I rx rv h
 obtain⟨l,xs,rfl,rfl,hH,q⟩:=h
 cases rx
 have hus:=rv.zero
 subst hus
 obtain⟨z,its,n,r,hl,e⟩:=I.lstM hH
 refine call_meets PySem.F.slot_list_clear ⟨_,e,rfl⟩ PySem.F.entry_list_clear (PySem.F.args_list_clear_1 _) (AutoSeq1.list_clear_list_0 l its.toArray n (by rw [List.size_toArray]; omega)) ⟨e,?_⟩
 exact⟨.non,_,I.lset (its':=[]) hH e rfl .nil (Nat.zero_le _),rfl,q⟩
theorem QiH (ho:PE3 ca X o mo) (hbase:attributeBase o "clear" X.env (eval o X.env)=eval o X.env:=by rfl) (hline:(apos.endLine == pos.line)=true:=by rfl):PE3 ca X (.Call (.Attribute o "clear" apos) [] [] pos) (mOp1 QdZ mo) :=
 fun pn Φ=>Zn (Qjx (X:=xat X ca pn Φ) PySem.F.plainAttrs_list PySem.F.slot_list_clear PySem.F.type_list_clear mt_clear (ho pn Φ) hbase hline) fun σ H Q ⟨σ3,g,μ,R,q⟩=>Zr (Qab R q) fun x H1 hQ=>by
  obtain⟨d,g1,μ1,e1,R1,q1,p1⟩:=hQ
  unfold QdZ at p1
  cases q1 with
  | @ref n t hn =>
   dsimp only at p1
   cases hgn:g1[n]? with
   | none=>rw [hgn] at p1; exact p1.elim
   | some ob =>
    rw [hgn] at p1
    obtain⟨t',ht',orp⟩:=R1.g.addr hgn
    rw [hn] at ht'; cases ht'
    cases ob with
    | lst ds =>
     obtain⟨ws,hH,qs⟩:=orp
     dsimp only at p1
     have ex:Ext X.K μ1 H1 μ1 (upd H1 t (.lst [])):=Jj hH (by intro _ z; cases z) (by intro _ _ z; cases z)
     exact⟨.inl ⟨rfl,_,.of hH⟩,t,ws,rfl,rfl,hH,p1 .non _ μ1 ex (R1.g.set hn hH (by intro _ z; cases z) (by intro _ _ z; cases z) ⟨_,Qt,.nil⟩) .non⟩
    | _=>exact p1.elim
  | _=>exact p1.elim
end
end L3
end
section
namespace L3
open PySem
noncomputable def Qbs (x:D) (g:G):Res D:=match tyOf g x with
 | some t=>.ok (.bl (tyLe t .list || tyLe t .tuple)) g
 | none=>.stuck
end L3
end
section
namespace L3
open PySem PySem.Spec PyProof.Rows L2
section
variable {X:Cx} {ca:Nat->Addr} {e:Expr} {me:ME} {pos p p2 tp:Pos} {all cs:List Nat}
theorem YT (K:PySem.W.Frag) (t:Ty):PySem.W.kitAny K (.type t.name) [.type "list",.type "tuple"]=some (tyLe t .list || tyLe t .tuple):=by
 unfold PySem.W.kitAny
 rw [show Value.type "list" = .type Ty.list.name from rfl,Ym]
 cases tyLe t .list with
 | true=>rfl
 | false =>
  dsimp only
  unfold PySem.W.kitAny
  rw [show Value.type "tuple" = .type Ty.tuple.name from rfl,Ym]
  cases tyLe t .tuple <;> rfl
theorem QiI {h:Heap} {a:Addr} {xs:Array Value} (p:IsTup h a xs):∃ dd n sl,h.get? a=some ⟨.type "tuple",dd,.seq xs n,sl⟩:=by
 obtain⟨⟨cls,dd,data,sl⟩,h1,h2,n,h3⟩:=p
 simp only at h2 h3
 subst h2 h3
 exact⟨dd,n,sl,h1⟩
theorem Qez:CallR X (.builtin "isinstance") (fun xs H Q=>∃ x q g μ d t,xs=[x,.ref q]∧SqT X.K H q [.ty "list",.ty "tuple"]∧GRep X.K ca μ H g∧Den X.K μ H x d∧tyOf g d=some t∧Q (.bl (tyLe t .list || tyLe t .tuple)) H):=by
 intro pins s σ H xs us Q I rv h
 obtain⟨x,q,g,μ,d,t,rfl,hq,r,qd,ht,qq⟩:=h
 obtain⟨u,u2,rfl,ru,ru2⟩:=rv.two
 cases ru2
 obtain⟨its,r1,p1,_⟩:=I.tuple hq
 obtain⟨w1,w2,rfl,a1,a2⟩:=r1.two
 cases a1; cases a2
 obtain⟨dd,n,sl,ho⟩:=QiI p1
 have fin:∀ tk,EP X pins σ Q (.bool (tyLe t .list || tyLe t .tuple)) { s with toks:=tk }:=fun tk=>⟨.bl _,H,I.tok tk,rfl,qq⟩
 cases qd with
 | non=>cases ht; cases (show u=Value.none from ru); exact PySem.W.kia_tup PySem.W.kitx_none I.kIn True.intro ho (YT X.K .non) (fun z=>nomatch z) fin
 | bl y=>cases ht; cases (show u=Value.bool y from ru); exact PySem.W.kia_tup PySem.W.kitx_bool I.kIn True.intro ho (YT X.K .bool) (fun z=>nomatch z) fin
 | int y=>cases ht; obtain⟨t,q⟩:=(show ∃ t,u=Value.int y t from ru); cases q; exact PySem.W.kia_tup PySem.W.kitx_int I.kIn True.intro ho (YT X.K .int) (fun z=>nomatch z) fin
 | str y=>cases ht; obtain⟨t,q⟩:=(show ∃ t,u=Value.str y t from ru); cases q; exact PySem.W.kia_tup PySem.W.kitx_str I.kIn True.intro ho (YT X.K .str) (fun z=>nomatch z) fin
 | @tup a vs ds hq hs =>
  cases ht
  cases ru
  obtain⟨its,_,⟨o,h1,h2,_⟩,_⟩:=I.tuple hq
  exact PySem.W.kia_tup PySem.W.kitx_tuple I.kIn ⟨o,h1,h2⟩ ho (YT X.K .tuple) (fun z=>nomatch z) fin
 | @fl a vs ds hq hs =>
  cases ht
  cases ru
  obtain⟨its,_,p,_⟩:=I.list hq.sq
  obtain⟨o,h1,h2,_⟩:=p.isList
  exact PySem.W.kia_tup PySem.W.kitx_list I.kIn ⟨o,h1,h2⟩ ho (YT X.K .list) (fun z=>nomatch z) fin
 | @ref n a hn =>
  unfold tyOf at ht
  dsimp only at ht
  cases hg:g[n]? with
  | none=>rw [hg] at ht; cases ht
  | some o =>
   rw [hg] at ht
   obtain⟨a',ha',ob⟩:=r.addr hg
   rw [hn] at ha'; cases ha'
   cases o with
   | lst ds =>
    cases ht
    obtain⟨vs,hH,_⟩:=ob
    cases ru
    obtain⟨_,_,n,_,h1⟩:=(show ObjOk X.prog X.w H s.heap a (.lst vs) from I.hok a _ hH)
    exact PySem.W.kia_tup PySem.W.kitx_list I.kIn ⟨_,h1,rfl⟩ ho (YT X.K .list) (fun z=>nomatch z) fin
   | dct ks =>
    cases ht
    obtain⟨kv,hH,_⟩:=ob
    cases ru
    obtain⟨_,_,vs,_,p⟩:=(show ObjOk X.prog X.w H s.heap a (.dK kv) from I.hok a _ hH)
    obtain⟨o,es,ep,h1,h2,_⟩:=p
    exact PySem.W.kia_tup PySem.W.kitx_dict I.kIn ⟨o,h1,h2.1⟩ ho (YT X.K .dict) (fun z=>nomatch z) fin
   | ins _ _=>cases ht
   | exc _=>cases ht
theorem QiJ {k:Nat} {p3:Pos} (hi:X.mg "isinstance" = none) (hl:X.mg "list" = none) (ht:X.mg "tuple" = none) (he:PE3 ca X e me) (hgi:Gl X "isinstance":=by rfl) (hgl:Gl X "list":=by rfl) (hgt:Gl X "tuple":=by rfl)
  (hs:starEach [e,.Tuple [.Name "list" p2,.Name "tuple" p3] k tp] X.env=(false,eval e X.env)::starEach [.Tuple [.Name "list" p2,.Name "tuple" p3] k tp] X.env:=by rfl) (hs2:starEach [.Tuple [.Name "list" p2,.Name "tuple" p3] k tp] X.env=(false,eval (.Tuple [.Name "list" p2,.Name "tuple" p3] k tp) X.env)::starEach [] X.env:=by rfl)
  (hs3:starEach [.Name "list" p2,.Name "tuple" p3] X.env=(false,eval (.Name "list" p2) X.env)::starEach [.Name "tuple" p3] X.env:=by rfl) (hs4:starEach [.Name "tuple" p3] X.env=(false,eval (.Name "tuple" p3) X.env)::starEach [] X.env:=by rfl)
  (hpl:(backTo pos (starEach [.Tuple [.Name "list" p2,.Name "tuple" p3] k tp] X.env)).any (·.1)=false:=by rfl) :
  PE3 ca X (.Call (.Name "isinstance" p) [e,.Tuple [.Name "list" p2,.Name "tuple" p3] k tp] [] pos) (mOp1 Qbs me) :=
 fun pn Φ=>Zn (Ju (X:=xat X ca pn Φ) (Qez (ca:=ca)) hgi hi boot_isinstance (Z3 (X:=xat X ca pn Φ) (he pn Φ) (Z3 (X:=xat X ca pn Φ) (Qhl (X:=xat X ca pn Φ) (Z3 (X:=xat X ca pn Φ) (QbF (X:=xat X ca pn Φ) (v:=.ty "list") hgl hl boot_list rfl (by decide) (by decide)) (Z3 (X:=xat X ca pn Φ) (QbF (X:=xat X ca pn Φ) (v:=.ty "tuple") hgt ht boot_tuple rfl (by decide) (by decide)) Qbi hs4) hs3)) Qbi hs2) hs) (by decide) (by decide) hs hpl) fun σ H Q ⟨σ3,g,μ,R,q⟩ =>
  Zr (Qab R q) fun y H1 hQ=>by
   obtain⟨d,g1,μ1,e1,R1,q1,p1⟩:=hQ
   unfold Qbs at p1
   cases ht:tyOf g1 d with
   | none=>rw [ht] at p1; exact p1.elim
   | some t =>
    rw [ht] at p1
    exact⟨Nat.le_trans (by decide:2≤SZ) Z5,fun q hq=>⟨y,q,g1,μ1,d,t,rfl,.of Qt,R1.g.new hq,q1.mono (QU hq),ht,p1 _ _ μ1 (QU hq) (R1.g.new hq) (.bl _)⟩⟩
end
end L3
end
section
namespace L3
open PySem
noncomputable def QeA:MS:=(mRet (mAnd (mOp1 (Zx .int) (mVar 0)) (mNot (mOp1 (Zx .bool) (mVar 0)))))
noncomputable def Qbt:MF:=mDef 1 0 QeA
noncomputable def Qac:MS:=(mRet (mAnd (Qs Qbt (Qa (mVar 0) mNil)) (mOp2 pGe (mVar 0) (mLit (.int 0)))))
noncomputable def Qn:MF:=mDef 1 0 Qac
noncomputable def QfR:MS:=(mRet (mAnd (mOp1 (Zx .tuple) (mVar 0)) (mAnd (mOp2 pGt (mOp1 pLen (mVar 0)) (mLit (.int 0))) (mOp1 pAll (Ya (QW (mVar 0)) 1 [] (gSet 0) Yj (Qs Qn (Qa (mVar 0) mNil)))))))
noncomputable def Yp:MF:=mDef 1 0 QfR
noncomputable def ZJ:MS:=(mSeq (mIf (ZG (Qp (mOp1 (Zx .tuple) (mVar 0)))) (mRet (mLit (.bl false))) Q9)
 (mSeq (mIf (Qp (mOp2 pEq (mOp1 pLen (mVar 0)) (mLit (.int 2)))) (mRet (mAnd (mOp2 pEq (mOp2 pIx (mVar 0) (mLit (.int 0))) (mLit (.str (Str.ofString "one")))) (Qs Qn (Qa (mOp2 pIx (mVar 0) (mLit (.int 1))) mNil)))) Q9)
 (mRet (mAnd (mOp2 pEq (mOp1 pLen (mVar 0)) (mLit (.int 3))) (mAnd (mOp2 pEq (mOp2 pIx (mVar 0) (mLit (.int 0))) (mLit (.str (Str.ofString "many")))) (mAnd (Qs Yp (Qa (mOp2 pIx (mVar 0) (mLit (.int 1))) mNil)) (Qs Qn (Qa (mOp2 pIx (mVar 0) (mLit (.int 2))) mNil))))))))
noncomputable def Zt:MF:=mDef 1 0 ZJ
noncomputable def Qbc:MS:=(mIf (mOrT (ZG (Qp (mOp1 Qbs (mVar 0)))) (ZG (Qp (mOp1 pAll (Ya (QW (mVar 0)) 1 [] (gSet 0) Yj (Qs Zt (Qa (mVar 0) mNil))))))) (Qaz 7 (Qa (mLit (.str (Str.ofString "the machine stands between two lists of tokens"))) mNil)) Q9)
noncomputable def Qq:MF:=mDef 1 0 Qbc
noncomputable def QM:MS:=(mSeq (mIf (mOrT (ZG (Qp (mOp1 (Zx .tuple) (mVar 0)))) (Qp (mOp2 pNe (mOp1 pLen (mVar 0)) (mLit (.int 4))))) (Qaz 7 (Qa (mLit (.str (Str.ofString "a shape is a state, a facing and two lists"))) mNil)) Q9)
 (mSeq (mIf (ZG (Qp (Qs Qn (Qa (mOp2 pIx (mVar 0) (mLit (.int 0))) mNil)))) (Qaz 7 (Qa (mLit (.str (Str.ofString "the state is a whole number from nought on"))) mNil)) Q9)
 (mSeq (mIf (Qp (mOp2 (pIn true) (mOp2 pIx (mVar 0) (mLit (.int 1))) (mOpA pTup (Qa (mLit (.str (Str.ofString "l"))) (Qa (mLit (.str (Str.ofString "r"))) mNil))))) (Qaz 7 (Qa (mLit (.str (Str.ofString "the machine faces l or r"))) mNil)) Q9)
 (mSeq (Zw (Qs Qq (Qa (mOp2 pIx (mVar 0) (mLit (.int 2))) mNil)))
 (Zw (Qs Qq (Qa (mOp2 pIx (mVar 0) (mLit (.int 3))) mNil)))))))
noncomputable def Q7:MF:=mDef 1 0 QM
noncomputable def ZU:MS:=(mIf (Qp (mOp2 pEq (mOp2 pIx (mVar 3) (mLit (.int 0))) (mLit (.str (Str.ofString "one"))))) (Zw (Yk (mVar 2) (mOp2 pIx (mVar 3) (mLit (.int 1))))) (Zw (YS (mVar 2) (mOp2 pMul (mOp2 pIx (mVar 3) (mLit (.int 1))) (mOp2 pAdd (mVar 1) (mOp2 pIx (mVar 3) (mLit (.int 2))))))))
noncomputable def JT:MS:=(mSeq (mAsg (gSet 2) (mOpA newL mNil))
 (mSeq (mFor (QW (mVar 0)) (gSet 3) ZU)
 (mRet (mVar 2))))
noncomputable def Y6:MF:=mDef 2 2 JT
noncomputable def Yq:MS:=(mSeq (Zw (Qs Q7 (Qa (mVar 0) mNil)))
 (mSeq (mIf (ZG (Qp (Qs Qn (Qa (mVar 1) mNil)))) (Qaz 7 (Qa (mLit (.str (Str.ofString "the count is a whole number from nought on"))) mNil)) Q9)
 (mSeq (mAsg (gSet 2) (Qs Y6 (Qa (mOp2 pIx (mVar 0) (mLit (.int 2))) (Qa (mVar 1) mNil))))
 (mSeq (mAsg (gSet 3) (mOp2 pAdd (mVar 2) (Qs Y6 (Qa (mOp2 pIx (mVar 0) (mLit (.int 3))) (Qa (mVar 1) mNil)))))
 (mSeq (mAsg (gSet 4) (Ya (JR (mVar 3)) 2 [2] (JJ [(gSet 0),(gSet 1)]) (Qp (mOp2 pNe (mVar 1) (mLit (.int 0)))) (mOpA pTup (Qa (mOp2 pSub (mVar 0) (mOp1 pLen (mVar 2))) (Qa (mVar 1) mNil)))))
 (mRet (mOpA pTup (Qa (mOp2 pIx (mVar 0) (mLit (.int 0))) (Qa (mIfE (Qp (mOp2 pEq (mOp2 pIx (mVar 0) (mLit (.int 1))) (mLit (.str (Str.ofString "r"))))) (mLit (.int 0)) (mOp1 pNeg (mLit (.int 1)))) (Qa (mOp1 ZH (mVar 4)) mNil))))))))))
noncomputable def Zu:MF:=mDef 2 3 Yq
noncomputable def Qbd:MS:=(mRet (mIfE (Qp (mOp2 pEq (mOp2 pIx (mVar 0) (mLit (.int 0))) (mLit (.str (Str.ofString "one"))))) (mVar 0) (mOpA pTup (Qa (mLit (.str (Str.ofString "many"))) (Qa (mOp2 pIx (mVar 0) (mLit (.int 1))) (Qa (mOp2 pAdd (mOp2 pIx (mVar 0) (mLit (.int 2))) (mLit (.int 1))) mNil))))))
noncomputable def ZN:MF:=mDef 1 0 Qbd
noncomputable def QaN:MS:=(mRet (mOp1 ZH (Ya (QW (mVar 0)) 1 [] (gSet 0) Yj (Qs ZN (Qa (mVar 0) mNil)))))
noncomputable def ZE:MF:=mDef 1 0 QaN
noncomputable def Qb0:MS:=(mSeq (Zw (Qs Q7 (Qa (mVar 0) mNil)))
 (mRet (mOpA pTup (Qa (mOp2 pIx (mVar 0) (mLit (.int 0))) (Qa (mOp2 pIx (mVar 0) (mLit (.int 1))) (Qa (Qs ZE (Qa (mOp2 pIx (mVar 0) (mLit (.int 2))) mNil)) (Qa (Qs ZE (Qa (mOp2 pIx (mVar 0) (mLit (.int 3))) mNil)) mNil)))))))
noncomputable def Yf:MF:=mDef 1 0 Qb0
noncomputable def Qb1:MS:=(mSeq (Qcy (mVar 1) (mLit (.int 0)) (mOp2 pAdd (mOp2 pIx (mVar 1) (mLit (.int 0))) (mLit (.int 1))))
 (mSeq (mAsg (gSet 2) (mLit (.int 0)))
 (mSeq (mIf (Qp (mOp2 pGt (mOp1 pLen (mVar 0)) (mLit (.int 0)))) (mAsg (gSet 2) (mOp2 pIx (mVar 0) (mOp2 pMod (mOp2 pIx (mVar 1) (mLit (.int 0))) (mOp1 pLen (mVar 0))))) Q9)
 (mSeq (mAsg (gSet 3) (mOp2 pMod (mOp2 pMul (mOp2 pAdd (mOp2 pAdd (mOp2 pMod (mVar 2) (mLit (.int 2147483647))) (mOp2 pMul (mOp2 pMul (mOp2 pIx (mVar 1) (mLit (.int 0))) (mOp2 pIx (mVar 1) (mLit (.int 0)))) (mLit (.int 7919)))) (mLit (.int 11))) (mLit (.int 48271))) (mLit (.int 2147483647))))
 (mRet (mOp2 pMod (mOp2 pMul (mVar 3) (mVar 3)) (mLit (.int 1999999973))))))))
noncomputable def ZV:MF:=mDef 2 2 Qb1
noncomputable def YB (me:MF):MS:=(mSeq (mIf (Qp (mOp1 (Zx .dict) (mVar 1))) (mSeq (mIf (mOrT (ZG (Qp (mOp1 (Zx .dict) (mVar 0)))) (Qp (mOp2 pNe (mOp1 pLen (mVar 0)) (mOp1 pLen (mVar 1))))) (mRet (mLit (.bl false))) Q9)
 (mRet (mOp1 pAll (Ya (QW (mVar 1)) 1 [0,1] (gSet 0) Yj (mAnd (mOp2 (pIn false) (mVar 0) (mVar 1)) (Qs me (Qa (mOp2 pIx (mVar 1) (mVar 0)) (Qa (mOp2 pIx (mVar 2) (mVar 0)) mNil)))))))) Q9)
 (mSeq (mIf (mOrT (Qp (mOp1 (Zx .list) (mVar 1))) (Qp (mOp1 (Zx .tuple) (mVar 1)))) (mSeq (mIf (mOrT (Qp (mOp2 pNe (mOp1 (Zx .list) (mVar 0)) (mOp1 (Zx .list) (mVar 1)))) (Qp (mOp2 pNe (mOp1 (Zx .tuple) (mVar 0)) (mOp1 (Zx .tuple) (mVar 1))))) (mRet (mLit (.bl false))) Q9)
 (mRet (mAnd (mOp2 pEq (mOp1 pLen (mVar 0)) (mOp1 pLen (mVar 1))) (mOp1 pAll (Ya (QcA (mVar 0) (mVar 1)) 2 [] (JJ [(gSet 0),(gSet 1)]) Yj (Qs me (Qa (mVar 0) (Qa (mVar 1) mNil)))))))) Q9)
 (mSeq (mIf (Qp (mOp1 (Zx .str) (mVar 1))) (mRet (mAnd (mOp1 (Zx .str) (mVar 0)) (mOp2 pEq (mVar 0) (mVar 1)))) Q9)
 (mRet (mAnd (mOp1 (Zx .int) (mVar 0)) (mAnd (mNot (mOp1 (Zx .bool) (mVar 0))) (mOp2 pEq (mVar 0) (mVar 1))))))))
noncomputable def Zi:Nat->MF
 | 0=>fun _ _=>.stuck
 | k+1=>mDef 2 0 (YB (Zi k))
noncomputable def Qb2:MS:=(mSeq (mAsg (gSet 3) (Qs ZV (Qa (mVar 0) (Qa (mVar 1) mNil))))
 (mSeq (mAsg (gSet 4) (mOp2 pIx (mOpA newL (Qa (mLit (.int 1)) (Qa (mLit (.int 1)) (Qa (mLit (.int 2)) (Qa (mLit (.int 2)) (Qa (mLit (.int 3)) (Qa (mLit (.int 3)) (Qa (mOp2 pAdd (mLit (.int 1)) (mOp2 pMod (mOp2 QK (mVar 3) (mLit (.int 8))) (mLit (.int 6)))) (Qa (mLit (.int 20)) mNil))))))))) (mOp2 pMod (mVar 3) (mLit (.int 8)))))
 (mSeq (mIf (Qfa (Qp (mOp2 pEq (mVar 4) (mLit (.int 20)))) (Qp (mOp2 pGt (mOp2 pMod (mOp2 QK (mVar 3) (mLit (.int 8))) (mLit (.int 9))) (mLit (.int 0))))) (mAsg (gSet 4) (mLit (.int 2))) Q9)
 (mSeq (mAsg (gSet 5) (Qs ZV (Qa (mVar 0) (Qa (mVar 1) mNil))))
 (mRet (mOp1 ZH (Ya (Zz (mVar 4)) 1 [2,5,3] (gSet 0) Yj (mOp2 pMod (mOp2 pAdd (mOp2 QK (mVar 2) (mOp2 pAdd (mOp2 pMul (mOp2 pMul (mVar 0) (mVar 0)) (mVar 0)) (mLit (.int 1)))) (mOp2 pMul (mVar 0) (mOp2 pMod (mOp2 QK (mVar 3) (mLit (.int 72))) (mLit (.int 5))))) (mVar 1)))))))))
noncomputable def Qb3:MF:=mDef 3 3 Qb2
noncomputable def ZF:MS:=(mSeq (mAsg (gSet 5) (Qs ZV (Qa (mVar 0) (Qa (mVar 1) mNil))))
 (mSeq (mIf (Qp (mOp2 pEq (mOp2 pMod (mVar 5) (mLit (.int 5))) (mLit (.int 0)))) (mRet (mVar 4)) Q9)
 (mIf (Qp (mOp2 pLt (mOp2 pMod (mVar 5) (mLit (.int 5))) (mLit (.int 3)))) (Zw (Yk (mVar 4) (mOpA pTup (Qa (mLit (.str (Str.ofString "one"))) (Qa (mOp2 pMod (mOp2 QK (mVar 5) (mLit (.int 5))) (mVar 2)) mNil))))) (mSeq (mAsg (gSet 6) (Qs Qb3 (Qa (mVar 0) (Qa (mVar 1) (Qa (mVar 2) mNil)))))
 (mSeq (mAsg (gSet 7) (Ya (QW (ZA (mVar 6) Zb (YJ (mLit (.int 7))))) 1 [6] (gSet 0) (Qp (mOp2 pLt (mOp1 pLen (mVar 1)) (mLit (.int 8)))) (mOpA pTup (Qa (mLit (.str (Str.ofString "one"))) (Qa (mVar 0) mNil)))))
 (mSeq (Zw (YS (mVar 4) (mOp2 pIx (mOpA newL (Qa (mOpA newL mNil) (Qa (mVar 7) (Qa (ZA (mVar 7) (YJ (mOp1 pNeg (mLit (.int 1)))) Zb) (Qa (ZA (mVar 7) Zb (YJ (mLit (.int 1)))) (Qa (mVar 7) (Qa (mOpA newL mNil) mNil))))))) (mOp2 pMod (mOp2 QK (mVar 5) (mLit (.int 5))) (mLit (.int 6))))))
 (mSeq (Zw (Yk (mVar 4) (mOpA pTup (Qa (mLit (.str (Str.ofString "many"))) (Qa (mVar 6) (Qa (mOp2 pMod (mOp2 QK (mVar 5) (mLit (.int 30))) (mLit (.int 4))) mNil))))))
 (Zw (YS (mVar 4) (mOp2 pIx (mOpA newL (Qa (mOpA newL mNil) (Qa (mVar 7) (Qa (ZA (mVar 7) Zb (YJ (mLit (.int 1)))) (Qa (ZA (mVar 7) (YJ (mOp1 pNeg (mLit (.int 1)))) Zb) (Qa (mOpA newL mNil) (Qa (mVar 7) mNil))))))) (mOp2 pMod (mOp2 QK (mVar 5) (mLit (.int 120))) (mLit (.int 6)))))))))))))
noncomputable def JU:MS:=(mSeq (mAsg (gSet 4) (mOpA newL mNil))
 (mSeq (Qcx (Qp (mOp2 pLt (mOp1 pLen (mVar 4)) (mVar 3))) ZF)
 (mRet (mVar 4))))
noncomputable def Y7:MF:=mDef 4 4 JU
noncomputable def QaO:MS:=(mSeq (mAsg (gSet 4) (Qs ZV (Qa (mVar 0) (Qa (mVar 1) mNil))))
 (mSeq (mAsg (gSet 5) (Qs Y7 (Qa (mVar 0) (Qa (mVar 1) (Qa (mVar 3) (Qa (mOp2 pMod (mOp2 QK (mVar 4) (mLit (.int 2))) (mLit (.int 5))) mNil))))))
 (mSeq (mAsg (gSet 6) (Qs Y7 (Qa (mVar 0) (Qa (mVar 1) (Qa (mVar 3) (Qa (mOp2 pMod (mOp2 QK (mVar 4) (mLit (.int 10))) (mLit (.int 5))) mNil))))))
 (mRet (mOpA pTup (Qa (mOp2 pMod (mOp2 QK (mVar 4) (mLit (.int 50))) (mVar 2)) (Qa (mOp2 pIx (mLit (.str (Str.ofString "lr"))) (mOp2 pMod (mVar 4) (mLit (.int 2)))) (Qa (mVar 5) (Qa (mVar 6) mNil)))))))))
noncomputable def QaP:MF:=mDef 4 3 QaO
noncomputable def YU:MS:=(mAsg (gSet 2) (mOp2 pAdd (mVar 2) (mOp1 Qaa (mOp2 pIx (mVar 3) (mLit (.int 1))))))
noncomputable def Yg:MS:=(mIf (Qp (mOp2 pEq (mOp2 pIx (mVar 3) (mLit (.int 0))) (mLit (.str (Str.ofString "one"))))) (Zw (Yk (mVar 2) (mOp2 pIx (mVar 3) (mLit (.int 1))))) (mFor (Zz (mOp2 pAdd (mVar 1) (mOp2 pIx (mVar 3) (mLit (.int 2))))) (gSet 4) YU))
noncomputable def QaQ:MS:=(mSeq (mAsg (gSet 2) (mOpA newL mNil))
 (mSeq (mFor (QW (mVar 0)) (gSet 3) Yg)
 (mRet (mVar 2))))
noncomputable def JA:MF:=mDef 2 3 QaQ
noncomputable def Z6:MS:=(mIf (Qp (mOp2 pNe (mOp2 pIx (mVar 7) (mVar 9)) (mLit (.int 0)))) (QfP (mVar 8) (mOp2 pSub (mVar 9) (mOp1 pLen (mVar 6))) (mOp2 pIx (mVar 7) (mVar 9))) Q9)
noncomputable def Qb4:MS:=(mSeq (mAsg (JJ [(gSet 2),(gSet 3),(gSet 4),(gSet 5)]) (mVar 0))
 (mSeq (mAsg (gSet 6) (Qs JA (Qa (mVar 4) (Qa (mVar 1) mNil))))
 (mSeq (mAsg (gSet 7) (mOp2 pAdd (mVar 6) (Qs JA (Qa (mVar 5) (Qa (mVar 1) mNil)))))
 (mSeq (mAsg (gSet 8) QiE)
 (mSeq (mFor (Zz (mOp1 pLen (mVar 7))) (gSet 9) Z6)
 (mRet (mOpA pTup (Qa (mVar 2) (Qa (mOp1 pNeg (mOp1 pInt (mOp2 pEq (mVar 3) (mLit (.str (Str.ofString "l")))))) (Qa (mVar 8) mNil))))))))))
noncomputable def JB:MF:=mDef 2 8 Qb4
noncomputable def Qb5:MS:=(mSeq (mAsg (JJ [(gSet 1),(gSet 2),(gSet 3)]) (mVar 0))
 (mRet (mOpA pTup (Qa (mVar 1) (Qa (mVar 2) (Qa (mOp1 ZH (Ya (QW (mOp1 JQ (mOp1 Qdm (mVar 3)))) 1 [3] (gSet 0) Yj (mOpA pTup (Qa (mVar 0) (Qa (mOp2 pDIx (mVar 1) (mVar 0)) mNil))))) mNil))))))
noncomputable def JC:MF:=mDef 1 3 Qb5
noncomputable def Qb6:MS:=(mSeq (mAsg (JJ [(gSet 1),(gSet 2),(gSet 3),(gSet 4)]) (mVar 0))
 (mRet (mOpA pTup (Qa (mVar 1) (Qa (mVar 2) (Qa (mOp1 ZH (mVar 3)) (Qa (mOp1 ZH (mVar 4)) mNil)))))))
noncomputable def Qap:MF:=mDef 1 4 Qb6
noncomputable def Jo:MS:=(mSeq (mIf (Qp (mOp2 pEq (mOp2 pIx (mVar 2) (mLit (.int 0))) (mLit (.str (Str.ofString "many"))))) (mAsg (gSet 2) (mOpA pTup (Qa (mLit (.str (Str.ofString "many"))) (Qa (mOp2 pIx (mVar 2) (mLit (.int 1))) (Qa (mOp2 pAdd (mOp2 pIx (mVar 2) (mLit (.int 2))) (mLit (.int 1))) mNil))))) Q9)
 (Zw (Yk (mVar 1) (mVar 2))))
noncomputable def Qb7:MS:=(mSeq (mAsg (gSet 1) (mOpA newL mNil))
 (mSeq (mFor (QW (mVar 0)) (gSet 2) Jo)
 (mRet (mOp1 ZH (mVar 1)))))
noncomputable def Qaq:MF:=mDef 1 2 Qb7
noncomputable def JV:MS:=(mSeq (mAsg (JJ [(gSet 1),(gSet 2),(gSet 3),(gSet 4)]) (mVar 0))
 (mRet (mOpA pTup (Qa (mVar 1) (Qa (mVar 2) (Qa (Qs Qaq (Qa (mVar 3) mNil)) (Qa (Qs Qaq (Qa (mVar 4) mNil)) mNil)))))))
noncomputable def Yr:MF:=mDef 1 4 JV
noncomputable def QfS:MS:=(mSeq (mAsg (gSet 2) (mOpA newL (Qa (mOp1 (QO [0,1,2,3,4,5,6,7,8,9,10] [1]) (mVar 0)) (Qa (mOp1 (QO [0,1,2,3,4,5,6,7,8,9,10] [2]) (mVar 0)) (Qa (mOp1 (QO [0,1,2,3,4,5,6,7,8,9,10] [3]) (mVar 0)) mNil)))))
 (mSeq (mAsg (gSet 2) (mOp2 pAdd (mVar 2) (mOpA newL (Qa (mOp1 (QO [0,1,2,3,4,5,6,7,8,9,10] [4]) (mVar 0)) (Qa (mOp1 (QO [0,1,2,3,4,5,6,7,8,9,10] [5]) (mVar 0)) (Qa (mOp1 (QO [0,1,2,3,4,5,6,7,8,9,10] [6]) (mVar 0)) mNil))))))
 (mSeq (mAsg (gSet 2) (mOp2 pAdd (mVar 2) (mOpA newL (Qa (mOp1 (QO [0,1,2,3,4,5,6,7,8,9,10] [9]) (mVar 0)) (Qa (mOp1 (QO [0,1,2,3,4,5,6,7,8,9,10] [10]) (mVar 0)) mNil)))))
 (mSeq (mIf (mOrT (Qp (mOp2 (pIn false) (mLit (.bl true)) (mVar 2))) (ZG (Qp (mOp1 (QO [0,1,2,3,4,5,6,7,8,9,10] [0,1,2,3,4,5,6,7,8,9,10]) (mVar 0))))) (mRet (mLit (.bl false))) Q9)
 (mRet (mAnd (mOp2 pEq (mOp1 (QO [0,1,2,3,4,5,6,7,8,9,10] [7]) (mVar 0)) (mOp2 pEq (mVar 1) (mLit (.str (Str.ofString "shape"))))) (mOp2 pEq (mOp1 (QO [0,1,2,3,4,5,6,7,8,9,10] [8]) (mVar 0)) (mOp2 pEq (mVar 1) (mLit (.str (Str.ofString "move")))))))))))
noncomputable def QfT:MF:=mDef 2 1 QfS
noncomputable def JD:MS:=(mSeq (mAsg (JJ [(gSet 2),(gSet 3),(gSet 4),(gSet 5)]) (mVar 1))
 (mSeq (mAsg (gSet 6) (mOpA newL (Qa (mOpA pTup (Qa (mLit (.str (Str.ofString "one"))) mNil)) (Qa (mOpA pTup (Qa (mLit (.str (Str.ofString "one"))) (Qa (mOp1 pNeg (mLit (.int 1))) mNil))) (Qa (mOpA pTup (Qa (mLit (.str (Str.ofString "many"))) (Qa (mOpA pTup mNil) (Qa (mLit (.int 0)) mNil)))) (Qa (mOpA pTup (Qa (mLit (.str (Str.ofString "many"))) (Qa (mOpA pTup (Qa (mLit (.int 0)) mNil)) (Qa (mOp1 pNeg (mLit (.int 1))) mNil)))) (Qa (mOpA pTup (Qa (mLit (.str (Str.ofString "many"))) (Qa (mOpA newL (Qa (mLit (.int 0)) mNil)) (Qa (mLit (.int 0)) mNil)))) (Qa (mOpA pTup (Qa (mLit (.str (Str.ofString "two"))) (Qa (mLit (.int 0)) mNil))) (Qa (mLit .non) mNil)))))))))
 (mSeq (mAsg (gSet 6) (mOp2 pAdd (mVar 6) (mOpA newL (Qa (mOpA pTup (Qa (mLit (.str (Str.ofString "many"))) (Qa (mOpA pTup (Qa (mLit (.int 0)) mNil)) mNil))) (Qa (mOpA pTup (Qa (mLit (.str (Str.ofString "one"))) (Qa (mLit (.str (Str.ofString "0"))) mNil))) (Qa (mOpA pTup (Qa (mLit (.str (Str.ofString "many"))) (Qa (mOpA pTup (Qa (mLit (.int 0)) (Qa (mOp1 pNeg (mLit (.int 1))) mNil))) (Qa (mLit (.int 1)) mNil)))) (Qa (mOpA newL (Qa (mLit (.str (Str.ofString "one"))) (Qa (mLit (.int 0)) mNil))) (Qa (mOpA pTup mNil) (Qa (mLit (.str (Str.ofString "one"))) (Qa (mOpA pTup (Qa (mLit (.str (Str.ofString "one"))) (Qa (mLit (.int 0)) (Qa (mLit (.int 0)) mNil)))) (Qa (mLit (.int 5)) mNil)))))))))))
 (mSeq (mAsg (gSet 7) (mOp2 pIx (mVar 6) (mOp2 pMod (mOp2 QK (mVar 0) (mLit (.int 9))) (mLit (.int 15)))))
 (mSeq (mAsg (gSet 8) (mOp2 pMod (mOp2 QK (mVar 0) (mLit (.int 135))) (mOp2 pAdd (mOp1 pLen (mVar 4)) (mLit (.int 1)))))
 (mSeq (mIf (Qp (mOp2 pEq (mOp2 pMod (mVar 0) (mLit (.int 9))) (mLit (.int 0)))) (mRet (mOpA pTup (Qa (mOp1 pNeg (mLit (.int 1))) (Qa (mVar 3) (Qa (mVar 4) (Qa (mVar 5) mNil)))))) Q9)
 (mSeq (mIf (Qp (mOp2 pEq (mOp2 pMod (mVar 0) (mLit (.int 9))) (mLit (.int 1)))) (mRet (mOpA pTup (Qa (mVar 2) (Qa (mOp2 pIx (mOpA newL (Qa (mLit (.str (Str.ofString ""))) (Qa (mLit (.str (Str.ofString "x"))) (Qa (mLit (.str (Str.ofString "rl"))) (Qa (mLit .non) mNil))))) (mOp2 pMod (mOp2 QK (mVar 0) (mLit (.int 9))) (mLit (.int 4)))) (Qa (mVar 4) (Qa (mVar 5) mNil)))))) Q9)
 (mSeq (mIf (Qp (mOp2 pEq (mOp2 pMod (mVar 0) (mLit (.int 9))) (mLit (.int 2)))) (mRet (mOpA pTup (Qa (mVar 2) (Qa (mVar 3) (Qa (mLit .non) (Qa (mVar 5) mNil)))))) Q9)
 (mSeq (mIf (Qp (mOp2 pEq (mOp2 pMod (mVar 0) (mLit (.int 9))) (mLit (.int 3)))) (mRet (mOp2 pIx (mOpA newL (Qa (mOpA pTup (Qa (mVar 2) (Qa (mVar 3) (Qa (mVar 4) mNil)))) (Qa (mOpA newL (Qa (mVar 2) (Qa (mVar 3) (Qa (mVar 4) (Qa (mVar 5) mNil))))) (Qa (mLit .non) (Qa (mOpA pTup (Qa (mVar 2) (Qa (mVar 3) (Qa (mVar 4) (Qa (mVar 5) (Qa (mLit (.int 0)) mNil)))))) mNil))))) (mOp2 pMod (mOp2 QK (mVar 0) (mLit (.int 9))) (mLit (.int 4))))) Q9)
 (mSeq (mIf (Qp (mOp2 pEq (mOp2 pMod (mVar 0) (mLit (.int 9))) (mLit (.int 4)))) (mRet (mOpA pTup (Qa (mVar 2) (Qa (mVar 3) (Qa (mVar 4) (Qa (mLit (.str (Str.ofString "one"))) mNil)))))) Q9)
 (mSeq (mIf (Qp (mOp2 pEq (mOp2 pMod (mVar 0) (mLit (.int 9))) (mLit (.int 5)))) (mRet (mOpA pTup (Qa (mLit .non) (Qa (mVar 3) (Qa (mVar 4) (Qa (mVar 5) mNil)))))) Q9)
 (mSeq (mIf (Qp (mOp2 pEq (mOp2 pMod (mVar 0) (mLit (.int 9))) (mLit (.int 6)))) (mRet (mOpA pTup (Qa (mVar 2) (Qa (mVar 3) (Qa (mVar 4) (Qa (mOp2 pAdd (mOp1 Qaa (mVar 5)) (mOpA newL (Qa (mVar 7) mNil))) mNil)))))) Q9)
 (mRet (mOpA pTup (Qa (mVar 2) (Qa (mVar 3) (Qa (mOp2 pAdd (mOp2 pAdd (mOp1 Qaa (ZA (mVar 4) Zb (YJ (mVar 8)))) (mOpA newL (Qa (mVar 7) mNil))) (mOp1 Qaa (ZA (mVar 4) (YJ (mVar 8)) Zb))) (Qa (mVar 5) mNil))))))))))))))))))
noncomputable def ZW:MF:=mDef 2 7 JD
noncomputable def Jp:MS:=(mSeq (mAsg (gSet 2) (mLit .non))
 (mSeq (mTry (mIf (Qp (mOp2 pIs (mVar 1) (mLit .non))) (Zw (Qs Yf (Qa (mVar 0) mNil))) (Zw (Qs Zu (Qa (mVar 0) (Qa (mVar 1) mNil))))) [⟨[0,1,2,3,4,5,6,7,8,9,10],[],some 3,(mAsg (gSet 2) (mVar 3))⟩])
 (mRet (Qs QfT (Qa (mVar 2) (Qa (mLit (.str (Str.ofString "shape"))) mNil))))))
noncomputable def Zc:MF:=mDef 2 2 Jp
noncomputable def ZP:MS:=(mSeq (mAsg (gSet 7) (Qs JC (Qa (Qs JB (Qa (mVar 3) (Qa (mVar 6) mNil))) mNil)))
 (mSeq (mIf (ZG (Qp (Qs (Zi 6) (Qa (Qs Zu (Qa (mVar 4) (Qa (mVar 6) mNil))) (Qa (mVar 7) mNil))))) (mRet (mLit (.bl false))) Q9)
 (mIf (ZG (Qp (Qs (Zi 6) (Qa (Qs Zu (Qa (mVar 5) (Qa (mVar 6) mNil))) (Qa (Qs JC (Qa (Qs JB (Qa (mVar 3) (Qa (mOp2 pAdd (mVar 6) (mLit (.int 1))) mNil))) mNil)) mNil))))) (mRet (mLit (.bl false))) Q9)))
noncomputable def QaR:MS:=(mSeq (mAsg (gSet 2) (Qs ZV (Qa (mVar 0) (Qa (mVar 1) mNil))))
 (mSeq (mAsg (gSet 3) (Qs QaP (Qa (mVar 0) (Qa (mVar 1) (Qa (mOp2 pAdd (mLit (.int 1)) (mOp2 pMod (mVar 2) (mLit (.int 12)))) (Qa (mOp2 pAdd (mLit (.int 1)) (mOp2 pMod (mOp2 QK (mVar 2) (mLit (.int 12))) (mLit (.int 8)))) mNil))))))
 (mSeq (mAsg (gSet 4) (mVar 3))
 (mSeq (mIf (Qp (mOp2 pEq (mOp2 pMod (mOp2 QK (mVar 2) (mLit (.int 96))) (mLit (.int 2))) (mLit (.int 0)))) (mAsg (gSet 4) (Qs Qap (Qa (mVar 3) mNil))) Q9)
 (mSeq (mAsg (gSet 5) (Qs Yf (Qa (mVar 4) mNil)))
 (mSeq (mIf (ZG (Qp (Qs (Zi 6) (Qa (mVar 5) (Qa (Qs Yr (Qa (mVar 3) mNil)) mNil))))) (mRet (mLit (.bl false))) Q9)
 (mSeq (mFor (QW (mOpA newL (Qa (mLit (.int 0)) (Qa (mLit (.int 1)) (Qa (mLit (.int 2)) (Qa (mLit (.int 3)) (Qa (mOp2 pMod (mOp2 QK (mVar 2) (mLit (.int 192))) (mLit (.int 16))) mNil))))))) (gSet 6) ZP)
 (mSeq (mAsg (gSet 8) (Qs ZV (Qa (mVar 0) (Qa (mVar 1) mNil))))
 (mSeq (mAsg (gSet 9) (Qs ZW (Qa (mVar 8) (Qa (mVar 4) mNil))))
 (mSeq (mIf (mOrT (ZG (Qp (Qs Zc (Qa (mVar 9) (Qa (mLit .non) mNil))))) (mOrT (ZG (Qp (Qs Zc (Qa (mVar 9) (Qa (mOp2 pMod (mVar 8) (mLit (.int 3))) mNil))))) (ZG (Qp (Qs Zc (Qa (mVar 4) (Qa (mOp2 pSub (mOp1 pNeg (mLit (.int 1))) (mOp2 pMod (mVar 8) (mLit (.int 5)))) mNil))))))) (mRet (mLit (.bl false))) Q9)
 (mSeq (mAsg (gSet 10) (mOpA pTup (Qa (mOp2 pIx (mVar 3) (mLit (.int 0))) (Qa (mOp2 pIx (mVar 3) (mLit (.int 1))) (Qa (mOp1 Qaa (mOp2 pIx (mVar 3) (mLit (.int 2)))) (Qa (mOp1 Qaa (mOp2 pIx (mVar 3) (mLit (.int 3)))) mNil))))))
 (mSeq (mAsg (gSet 5) (Qs Yf (Qa (mVar 10) mNil)))
 (mSeq (Zw (Yk (mOp2 pIx (mVar 10) (mLit (.int 2))) (mOpA pTup (Qa (mLit (.str (Str.ofString "one"))) (Qa (mLit (.int 1)) mNil)))))
 (mSeq (Zw (mOp1 QdZ (mOp2 pIx (mVar 10) (mLit (.int 3)))))
 (mRet (mAnd (Qs (Zi 6) (Qa (mVar 5) (Qa (Qs Yr (Qa (mVar 3) mNil)) mNil))) (Qs (Zi 6) (Qa (Qs Yf (Qa (mVar 4) mNil)) (Qa (Qs Yr (Qa (mVar 3) mNil)) mNil)))))))))))))))))))
noncomputable def QaS:MF:=mDef 2 9 QaR
noncomputable def Qb8:MS:=(mIf (ZG (Qp (Qs QaS (Qa (mVar 0) (Qa (mVar 1) mNil))))) (mRet (mLit (.bl false))) Q9)
noncomputable def QiK:MS:=(mSeq (mAsg (gSet 1) (mOpA newL (Qa (mLit (.int 0)) mNil)))
 (mSeq (mFor (Zz (mOp2 pAdd (mLit (.int 1)) (mOp2 QK (mOp1 pLen (ZA (mVar 0) Zb (YJ (mLit (.int 60))))) (mLit (.int 30))))) (gSet 2) Qb8)
 (mRet (mLit (.bl true)))))
noncomputable def QgY:MF:=mDef 1 2 QiK
end L3
end
section
namespace L3
open PySem
structure Keeps (S:List Nat) (g g':G):Prop where
 len:g.length≤g'.length
 at':∀ n o,n∉S->g[n]?=some o->g'[n]?=some o
theorem Keeps.refl {S:List Nat} {g:G}:Keeps S g g:=⟨Nat.le_refl _,fun _ _ _ h=>h⟩
theorem Keeps.trans {S:List Nat} {g g1 g2:G} (a:Keeps S g g1) (b:Keeps S g1 g2):Keeps S g g2:=⟨Nat.le_trans a.len b.len,fun n o h e=>b.at' n o h (a.at' n o h e)⟩
theorem Keeps.mono {S T:List Nat} {g g1:G} (a:Keeps S g g1) (h:∀ n∈S,n∈T):Keeps T g g1:=⟨a.len,fun n o q e=>a.at' n o (fun z=>q (h n z)) e⟩
theorem Keeps.all {S:List Nat} {g g1:G} (a:Keeps [] g g1):Keeps S g g1:=a.mono (by simp)
theorem Keeps.push {S:List Nat} {g:G} (o:GO):Keeps S g (g++[o]):=⟨by simp,fun n u _ e=>by
 have hl:n<g.length:=(List.getElem?_eq_some_iff.mp e).1
 rw [List.getElem?_append_left hl]; exact e⟩
theorem Keeps.set {g:G} (n:Nat) (o:GO):Keeps [n] g (g.set n o):=⟨by simp,fun m u h e=>by
 rw [List.getElem?_set_ne (fun z=>h (by simp [z]))]; exact e⟩
structure KeepsN (k:Nat) (S:List Nat) (g g':G):Prop where
 len:g.length≤g'.length
 at':∀ n o,n<k->n∉S->g[n]?=some o->g'[n]?=some o
theorem KeepsN.refl {k:Nat} {S:List Nat} {g:G}:KeepsN k S g g:=⟨Nat.le_refl _,fun _ _ _ _ h=>h⟩
theorem KeepsN.trans {k:Nat} {S:List Nat} {g g1 g2:G} (a:KeepsN k S g g1) (b:KeepsN k S g1 g2):KeepsN k S g g2:=⟨Nat.le_trans a.len b.len,fun n o l h e=>b.at' n o l h (a.at' n o l h e)⟩
theorem Keeps.n {k:Nat} {S T:List Nat} {g g1:G} (a:Keeps S g g1) (h:∀ n∈S,n<k->n∈T):KeepsN k T g g1:=⟨a.len,fun n o l q e=>a.at' n o (fun z=>q (h n z l)) e⟩
theorem KeepsN.mono {j k:Nat} {S T:List Nat} {g g1:G} (a:KeepsN k S g g1) (hj:j≤k) (h:∀ n∈S,n<j->n∈T):KeepsN j T g g1:=⟨a.len,fun n o l q e=>a.at' n o (by omega) (fun z=>q (h n z l)) e⟩
theorem KeepsN.keeps {S:List Nat} {g g1:G} (a:KeepsN g.length S g g1):Keeps S g g1:=⟨a.len,fun n o q e=>a.at' n o (List.getElem?_eq_some_iff.mp e).1 q e⟩
theorem Ql {g:G} (o:GO):(g++[o])[g.length]?=some o:=by simp
theorem Zd {g:G} {n:Nat} {o:GO} (h:g[n]?=some o):n<g.length:=(List.getElem?_eq_some_iff.mp h).1
theorem Zs {g:G} {n:Nat} {o u:GO} (h:g[n]?=some o):(g.set n u)[n]?=some u:=by rw [List.getElem?_set_self (Zd h)]
noncomputable def Qkq:Out->Prop
 | .rt _ _=>True
 | .raise _ _ _=>True
 | .stuck=>True
 | _=>False
theorem Qar {src:Src} {t:MG} {body:MS} {n:Nat} (I:Nat->S3->G->Prop) (R:Out->Prop)
  (step:∀ i σ g,i<n->I i σ g->∃ d σ1,src.at' g i=some (some d)∧t d σ=some σ1∧((∃ σ2 g2,(body σ1 g=.nx σ2 g2∨body σ1 g=.ct σ2 g2)∧I (i+1) σ2 g2)∨(Qkq (body σ1 g)∧R (body σ1 g))))
  (stop:∀ σ g,I n σ g->src.at' g n=some none):∀(f i:Nat) (σ:S3) (g:G),n - i<f->i≤n->I i σ g->(∃ σ' g',forL src t body f i σ g=.nx σ' g'∧I n σ' g')∨(Qkq (forL src t body f i σ g)∧R (forL src t body f i σ g))
 | 0,_,_,_,h,_,_=>by omega
 | f+1,i,σ,g,hf,hi,h=>by
  unfold forL
  by_cases e:i=n
  ·subst e
   rw [stop σ g h]
   exact .inl ⟨σ,g,rfl,h⟩
  ·obtain⟨d,σ1,h1,h2,h3⟩:=step i σ g (by omega) h
   rw [h1]
   dsimp only
   rw [h2]
   dsimp only
   rcases h3 with⟨σ2,g2,h3 | h3,h4⟩ | ⟨h3,h4⟩
   ·rw [h3]; exact Qar I R step stop f (i+1) σ2 g2 (by omega) (by omega) h4
   ·rw [h3]; exact Qar I R step stop f (i+1) σ2 g2 (by omega) (by omega) h4
   ·cases hb:body σ1 g with
    | rt d g'=>rw [hb] at h4; exact .inr ⟨trivial,h4⟩
    | raise x σ' g'=>rw [hb] at h4; exact .inr ⟨trivial,h4⟩
    | nx _ _=>rw [hb] at h3; exact h3.elim
    | bk _ _=>rw [hb] at h3; exact h3.elim
    | ct _ _=>rw [hb] at h3; exact h3.elim
    | stuck=>rw [hb] at h4; exact .inr ⟨trivial,h4⟩
theorem QaT {t:MG} {body:MS} {lo:Int} {n:Nat} {σ:S3} {g:G} (I:Nat->S3->G->Prop) (h0:I 0 σ g)
  (step:∀ i σ g,i<n->I i σ g->∃ σ1 σ2 g2,t (.int (lo+i)) σ=some σ1∧body σ1 g=.nx σ2 g2∧I (i+1) σ2 g2):∃ σ' g',forL (Zg lo n) t body (n+1) 0 σ g=.nx σ' g'∧I n σ' g':=by
 have:=Qar (src:=Zg lo n) (t:=t) (body:=body) (n:=n) I (fun _=>False) (fun i σ g hi h=>by
  obtain⟨σ1,σ2,g2,a,b,c⟩:=step i σ g hi h
  exact⟨.int (lo+i),σ1,by simp [Zg,hi],a,.inl ⟨σ2,g2,.inl b,c⟩⟩) (fun σ g _=>by simp [Zg]) (n+1) 0 σ g (by omega) (by omega) h0
 rcases this with h | h
 ·exact h
 ·exact h.2.elim
theorem Qb9 {src:Src} {t:MG} {body:MS} {n:Nat} {σ:S3} {g:G} (hn:src.top=n) (I:Nat->S3->G->Prop) (h0:I 0 σ g)
  (step:∀ i σ g,i<n->I i σ g->∃ d σ1 σ2 g2,src.at' g i=some (some d)∧t d σ=some σ1∧body σ1 g=.nx σ2 g2∧I (i+1) σ2 g2)
  (stop:∀ σ g,I n σ g->src.at' g n=some none):∃ σ' g',forL src t body (src.top+1) 0 σ g=.nx σ' g'∧I n σ' g':=by
 rw [hn]
 have:=Qar (src:=src) (t:=t) (body:=body) (n:=n) I (fun _=>False) (fun i σ g hi h=>by
  obtain⟨d,σ1,σ2,g2,a,b,c,e⟩:=step i σ g hi h
  exact⟨d,σ1,a,b,.inl ⟨σ2,g2,.inl c,e⟩⟩) stop (n+1) 0 σ g (by omega) (by omega) h0
 rcases this with h | h
 ·exact h
 ·exact h.2.elim
theorem ZQ {src:Src} {t:MG} {c:MT} {e:ME} {n:Nat} (I:Nat->S3->G->List D->Prop)
  (step:∀ i σ g acc,i<n->I i σ g acc->∃ d σ1 g1,src.at' g i=some (some d)∧t d σ=some σ1∧((∃ y g2,c σ1 g=.ok true g1∧e σ1 g1=.ok y g2∧I (i+1) σ1 g2 (acc++[y]))∨(c σ1 g=.ok false g1∧I (i+1) σ1 g1 acc)))
  (stop:∀ σ g acc,I n σ g acc->src.at' g n=some none):∀(f i:Nat) (σ:S3) (g:G) (acc:List D),n - i<f->i≤n->I i σ g acc->∃ ds σ' g',YK src t c e f i σ g acc=.ok ds g'∧I n σ' g' ds
 | 0,_,_,_,_,h,_,_=>by omega
 | f+1,i,σ,g,acc,hf,hi,h=>by
  unfold YK
  by_cases q:i=n
  ·subst q
   rw [stop σ g acc h]
   exact⟨acc,σ,g,rfl,h⟩
  ·obtain⟨d,σ1,g1,h1,h2,h3⟩:=step i σ g acc (by omega) h
   rw [h1]
   dsimp only
   rw [h2]
   dsimp only
   rcases h3 with⟨y,g2,h3,h4,h5⟩ | ⟨h3,h5⟩
   ·rw [h3]; dsimp only; rw [if_pos rfl,h4]; exact ZQ I step stop f (i+1) σ1 g2 _ (by omega) (by omega) h5
   ·rw [h3]; dsimp only; rw [if_neg Bool.false_ne_true]; exact ZQ I step stop f (i+1) σ1 g1 _ (by omega) (by omega) h5
end L3
end
section
namespace L3
open PySem
theorem QgZ {i:Int} (h0:-1000000≤i) (h1:i≤1000000):cM i:=⟨by omega,by omega⟩
theorem mulL {i j:Int} {g:G} (h:cM i):pMul (.int i) (.int j) g=.ok (.int (i*j)) g:=if_pos (.inl h)
theorem mulR {i j:Int} {g:G} (h:cM j):pMul (.int i) (.int j) g=.ok (.int (i*j)) g:=if_pos (.inr h)
theorem modP {i j:Int} {g:G} (h:0<j):pMod (.int i) (.int j) g=.ok (.int (i % j)) g:=if_pos h
theorem divP {i j:Int} {g:G} (h:0<j) (h2:j≤1000000):QK (.int i) (.int j) g=.ok (.int (i / j)) g:=if_pos ⟨h,by omega⟩
theorem Qj {f:D->D->G->Res D} {a b:ME} {σ:S3} {x y:D} {g g1 g2:G} {R:Res D} (ha:a σ g=.ok x g1) (hb:b σ g1=.ok y g2) (h:f x y g2=R):mOp2 f a b σ g=R:=by unfold mOp2; rw [ha,Res.bind_ok,hb,Res.bind_ok,h]
theorem QL {f:D->G->Res D} {a:ME} {σ:S3} {x:D} {g g1:G} {R:Res D} (ha:a σ g=.ok x g1) (h:f x g1=R):mOp1 f a σ g=R:=by unfold mOp1; rw [ha,Res.bind_ok,h]
theorem QC {a:ME} {σ:S3} {b:Bool} {g g1:G} (ha:a σ g=.ok (.bl b) g1):Qp a σ g=.ok b g1:=by unfold Qp; rw [ha,Res.bind_ok]
theorem Qd {a:ME} {r:MA} {x:D} {xs:List D} {σ:S3} {g g1 g2:G} (h:a σ g=.ok x g1) (h2:r σ g1=.ok xs g2):Qa a r σ g=.ok (x::xs) g2:=by
 unfold Qa; rw [h,Res.bind_ok,h2]; rfl
end L3
end
section
namespace L3
open PySem
theorem QcS {a b:MS} {σ σ':S3} {g g':G} (h:a σ g=.nx σ' g'):mSeq a b σ g=b σ' g':=by unfold mSeq; rw [h]
theorem Ys {a b:MS} {σ:S3} {d:D} {g g':G} (h:a σ g=.rt d g'):mSeq a b σ g=.rt d g':=by unfold mSeq; rw [h]
theorem QE {i:Nat} {a:ME} {σ:S3} {d:D} {g g':G} (h:a σ g=.ok d g'):mAsg (gSet i) a σ g=.nx (σ.set i (some d)) g':=by unfold mAsg; rw [h]; rfl
theorem Qd0 {c:MT} {a b:MS} {σ:S3} {g g':G} (h:c σ g=.ok true g'):mIf c a b σ g=a σ g':=by unfold mIf; rw [h]; rfl
theorem QfU {c:MT} {a b:MS} {σ:S3} {g g':G} (h:c σ g=.ok false g'):mIf c a b σ g=b σ g':=by unfold mIf; rw [h]; rfl
theorem Qm {f:MF} {a:MA} {σ:S3} {ds:List D} {g g':G} (h:a σ g=.ok ds g'):Qs f a σ g=f ds g':=by unfold Qs; rw [h]; rfl
theorem Z7 {a:ME} {σ:S3} {d:D} {g g':G} (h:a σ g=.ok d g'):Zw a σ g=.nx σ g':=by unfold Zw; rw [h]
theorem Q5 {a:ME} {σ:S3} {d:D} {g g':G} (h:a σ g=.ok d g'):mRet a σ g=.rt d g':=by unfold mRet; rw [h]
theorem Q1 {k n:Nat} {b:MS} {ds:List D} {d:D} {g g':G} (hl:ds.length=k) (h:b (ds.map some++List.replicate n none) g=.rt d g'):mDef k n b ds g=.ok d g':=by unfold mDef; rw [if_pos hl,h]
theorem Qkr (ns:List Int) (i:Int) (h:0<ns.length):∃ x,atD (ns.map D.int) (i % ns.length)=some (.int x):=by
 have h1:0≤i % (ns.length:Int):=Int.emod_nonneg _ (by omega)
 have h2:i % (ns.length:Int)<ns.length:=Int.emod_lt_of_pos _ (by omega)
 have h3:(i % (ns.length:Int)).toNat<ns.length:=by omega
 refine⟨ns[(i % (ns.length:Int)).toNat],?_⟩
 unfold atD ixD
 rw [List.length_map,if_pos h1,if_pos h2]
 simp [h3]
theorem ix0 {a:Nat} {d:D} {g:G} (h:g[a]?=some (.lst [d])):pIx (.ref a) (.int 0) g=.ok d g:=by
 unfold pIx; dsimp only; rw [h]; rfl
theorem ixfl {ds:List D} {i:Int} {d:D} {g:G} (h:atD ds i=some d):pIx (.fl ds) (.int i) g=.ok d g:=by
 unfold pIx; dsimp only; rw [h]
theorem QfV (c:Int) (x:D) (a:Nat) (k:Int) (g:G) (ga:g[a]?=some (.lst [.int k])) (hk:0≤k) (hk2:k<1000000001):∃ m,0≤m∧m<1999999973∧(mSeq (mAsg (gSet 3) (mOp2 pMod (mOp2 pMul (mOp2 pAdd (mOp2 pAdd (mOp2 pMod (mVar 2) (mLit (.int 2147483647))) (mOp2 pMul (mOp2 pMul (mOp2 pIx (mVar 1) (mLit (.int 0))) (mOp2 pIx (mVar 1) (mLit (.int 0)))) (mLit (.int 7919)))) (mLit (.int 11))) (mLit (.int 48271))) (mLit (.int 2147483647))))
      (mRet (mOp2 pMod (mOp2 pMul (mVar 3) (mVar 3)) (mLit (.int 1999999973))))) [some x,some (.ref a),some (.int c),none] g=.rt (.int m) g:=by
  have c1:cM k:=⟨by omega,by omega⟩
  have c2:cM 7919:=⟨by decide,by decide⟩
  have c3:cM 48271:=⟨by decide,by decide⟩
  have hr:=Int.emod_lt_of_pos ((c % 2147483647+k*k*7919+11)*48271) (show(0:Int)<2147483647 by decide)
  have hr0:=Int.emod_nonneg ((c % 2147483647+k*k*7919+11)*48271) (show(2147483647:Int)≠0 by decide)
  have c4:cM (((c % 2147483647+k*k*7919+11)*48271) % 2147483647):=⟨by omega,by omega⟩
  refine⟨((c % 2147483647+k*k*7919+11)*48271) % 2147483647*(((c % 2147483647+k*k*7919+11)*48271) % 2147483647) % 1999999973,Int.emod_nonneg _ (by decide),Int.emod_lt_of_pos _ (by decide),?_⟩
  have e1:(mOp2 pMod (mOp2 pMul (mOp2 pAdd (mOp2 pAdd (mOp2 pMod (mVar 2) (mLit (.int 2147483647))) (mOp2 pMul (mOp2 pMul (mOp2 pIx (mVar 1) (mLit (.int 0))) (mOp2 pIx (mVar 1) (mLit (.int 0)))) (mLit (.int 7919)))) (mLit (.int 11))) (mLit (.int 48271))) (mLit (.int 2147483647))) [some x,some (.ref a),some (.int c),none] g=.ok (.int (((c % 2147483647+k*k*7919+11)*48271) % 2147483647)) g:=by
    simp [mOp2,mVar,mLit,Res.bind,ix0 ga,pMod,pMul,pAdd,c1,c2,c3]
  rw [QcS (QE e1)]
  generalize ((c % 2147483647+k*k*7919+11)*48271) % 2147483647=r at c4 ⊢
  refine Q5 ?_
  simp [mOp2,mVar,mLit,Res.bind,pMod,pMul,c4]
theorem JW (ns:List Int) (a:Nat) (k:Int) (g:G) (hg:g[a]?=some (.lst [.int k])) (hk:0≤k) (hk2:k<1000000000) :
  ∃ m,0≤m∧m<1999999973∧ZV [.fl (ns.map .int),.ref a] g=.ok (.int m) (g.set a (.lst [.int (k+1)])):=by
 have s1:Qcy (mVar 1) (mLit (.int 0)) (mOp2 pAdd (mOp2 pIx (mVar 1) (mLit (.int 0))) (mLit (.int 1))) [some (.fl (ns.map .int)),some (.ref a),none,none] g=.nx [some (.fl (ns.map .int)),some (.ref a),none,none] (g.set a (.lst [.int (k+1)])):=by
  simp [Qcy,mOp2,mVar,mLit,Res.bind,ix0 hg,pAdd,hg,ixD]
 have ga:(g.set a (.lst [.int (k+1)]))[a]?=some (.lst [.int (k+1)]):=Zs hg
 generalize g.set a (.lst [.int (k+1)])=g1 at s1 ga ⊢
 have s2:mAsg (gSet 2) (mLit (.int 0)) [some (.fl (ns.map .int)),some (.ref a),none,none] g1=.nx [some (.fl (ns.map .int)),some (.ref a),some (.int 0),none] g1:=rfl
 have s3:∃ c,mIf (Qp (mOp2 pGt (mOp1 pLen (mVar 0)) (mLit (.int 0)))) (mAsg (gSet 2) (mOp2 pIx (mVar 0) (mOp2 pMod (mOp2 pIx (mVar 1) (mLit (.int 0))) (mOp1 pLen (mVar 0))))) Q9 [some (.fl (ns.map .int)),some (.ref a),some (.int 0),none] g1=.nx [some (.fl (ns.map .int)),some (.ref a),some (.int c),none] g1:=by
  by_cases hl:0<ns.length
  ·obtain⟨x,hx⟩:=Qkr ns (k+1) hl
   have hl':(0:Int)<(ns.length:Int):=by omega
   refine⟨x,?_⟩
   rw [Qd0 (g':=g1) (by simp [Qp,mOp2,mOp1,mVar,mLit,Res.bind,pLen,pGt,pCmp,hl])]
   refine QE ?_
   simp only [mOp2,mOp1,mVar,mLit,Res.bind,List.getElem?_cons_succ,List.getElem?_cons_zero,ix0 ga,pLen,pMod,List.length_map,hl',if_true,ixfl hx]
  ·cases ns with
   | nil=>exact⟨0,rfl⟩
   | cons x r=>simp at hl
 obtain⟨c,s3⟩:=s3
 obtain⟨m,m1,m2,m3⟩:=QfV c (.fl (ns.map .int)) a (k+1) g1 ga (by omega) (by omega)
 refine⟨m,m1,m2,Q1 rfl ?_⟩
 show Qb1 [some (.fl (ns.map .int)),some (.ref a),none,none] g=_
 unfold Qb1
 rw [QcS s1,QcS s2,QcS s3,m3]
end L3
end
section
namespace L3
open PySem
theorem QiL {n:Nat} (h:n≤1000):n<SZ:=Nat.lt_of_le_of_lt h (by decide)
theorem QfW {n:Nat} (h:n≤1000):inR (n:Int):=by
 have:(n:Int)≤1000:=by exact_mod_cast h
 constructor <;> omega
theorem JE {a:ME} {n:Nat} {σ:S3} {g g':G} (h:a σ g=.ok (.int n) g') (hr:inR (n:Int)):Zz a σ g=.ok (Zg 0 n) g':=by
 unfold Zz; rw [h,Res.bind_ok]; dsimp only; rw [if_pos hr,Int.toNat_natCast]
theorem QaU {it:MI} {t:MG} {body:MS} {src:Src} {σ:S3} {g g':G} (h:it σ g=.ok src g'):mFor it t body σ g=forL src t body (src.top+1) 0 σ g':=by
 unfold mFor; rw [h]
end L3
end
section
namespace L3
open PySem
theorem Qh {a b:MS} {σ:S3} {g:G} {R:Out} (σ':S3) (g':G) (h:a σ g=.nx σ' g') (h2:b σ' g'=R):mSeq a b σ g=R:=(QcS h).trans h2
theorem ift {c:MT} {a b:MS} {σ:S3} {g:G} {R:Out} (g':G) (h:c σ g=.ok true g') (h2:a σ g'=R):mIf c a b σ g=R:=(Qd0 h).trans h2
theorem iff' {c:MT} {a b:MS} {σ:S3} {g:G} {R:Out} (g':G) (h:c σ g=.ok false g') (h2:b σ g'=R):mIf c a b σ g=R:=(QfU h).trans h2
theorem Zp {f:List D->G->Res D} {a:MA} {σ:S3} {g g1:G} {xs:List D} {R:Res D} (h:a σ g=.ok xs g1) (h2:f xs g1=R):mOpA f a σ g=R:=by unfold mOpA; rw [h,Res.bind_ok,h2]
end L3
end
section
namespace L3
open PySem
theorem eq_str (s t:Str) (g:G):pEq (.str s) (.str t) g=.ok (.bl (s == t)) g:=rfl
theorem QhC {k n:Nat} {b:MS} {ds:List D} {σ:S3} {g g':G} (hl:ds.length=k) (h:b (ds.map some++List.replicate n none) g=.nx σ g'):mDef k n b ds g=.ok .non g':=by unfold mDef; rw [if_pos hl,h]
theorem Ze {k n:Nat} {b:MS} {ds:List D} {x:Xc} {σ:S3} {g g':G} (hl:ds.length=k) (h:b (ds.map some++List.replicate n none) g=.raise x σ g'):mDef k n b ds g=.raise x g':=by unfold mDef; rw [if_pos hl,h]
theorem QfX {n:Nat} {ds:List D} {y:D} {σ:S3} {g:G} {o e:ME} (ho:o σ g=.ok (.ref n) g) (h:g[n]?=some (.lst ds)) (he:e σ g=.ok y g) (hz:ds.length<SZ) :
  Zw (Yk o e) σ g=.nx σ (g.set n (.lst (ds++[y]))):=by
 refine Z7 (d:=.non) ?_
 unfold Yk
 rw [ho,Res.bind_ok]
 dsimp only
 rw [h]
 dsimp only
 rw [he,Res.bind_ok,h]
 dsimp only
 rw [if_pos hz]
theorem YV {it:MI} {n:Nat} {cap:List Nat} {t:MG} {c:MT} {e:ME} {σ:S3} {g g1 g2:G} {src:Src} {ds:List D} {σ0:S3} (h1:it σ g=.ok src g1) (hz:src.top≤SZ) (hc:capt n cap σ=σ0) (h2:YK src t c e (src.top+1) 0 σ0 g1 []=.ok ds g2):Ya it n cap t c e σ g=.ok (.ref g2.length) (g2++[.lst ds]):=by
 unfold Ya; rw [h1]; dsimp only; rw [if_pos hz,hc,h2]
theorem QiM {g:G} {d1 d2:D} {b1 b2:Bool} {xs ys:List D} (h1:Qr g d1=some (b1,xs)) (h2:Qr g d2=some (b2,ys)) (hl:xs.length=ys.length) :
  ∃ src,QdD d1 d2 g=.ok src g∧src.top=xs.length∧∀ g1,Qr g1 d1=some (b1,xs)->Qr g1 d2=some (b2,ys)->src.at' g1 xs.length=some none∧∀(i:Nat) x y,xs[i]?=some x->ys[i]?=some y->src.at' g1 i=some (some (.tup [x,y])):=by
 unfold QdD
 rw [h1,h2]
 refine⟨_,rfl,by simp [hl],fun g1 q1 q2=>⟨?_,fun i x y hx hy=>?_⟩⟩
 ·dsimp only; rw [q1,q2]; dsimp only; rw [List.getElem?_eq_none (Nat.le_refl _)]
 ·dsimp only; rw [q1,q2]; dsimp only; rw [hx,hy]
theorem YF {a:MT} {σ:S3} {g g1:G} (h1:a σ g=.ok true g1):ZG a σ g=.ok false g1:=by unfold ZG; rw [h1]; rfl
noncomputable def srcL (a:Nat) (n:Nat):Src:=⟨fun g i=>(match g[a]? with | some (.lst es)=>some es[i]? | _=>none),n⟩
end L3
end
section
namespace L3
open PySem
theorem Qg0 {a b:MT} {σ:S3} {g g1 g2:G} (h1:a σ g=.ok false g1) (h2:b σ g1=.ok false g2):mOrT a b σ g=.ok false g2:=by
 unfold mOrT; rw [h1,Res.bind_ok,if_neg Bool.false_ne_true,h2]
theorem QhD {t p:Nat} {ds:List D} {d:D} {g:G} (h:g[t]?=some (.lst ds)) (hp:ds[p]?=some d):pIx (.ref t) (.int p) g=.ok d g:=by
 have hl:p<ds.length:=(List.getElem?_eq_some_iff.mp hp).1
 unfold pIx; dsimp only; rw [h]; dsimp only
 unfold atD ixD
 rw [if_pos (by omega),if_pos (by omega)]
 simp [hp]
theorem QcT {t:Nat} {i:Int} {ds:List D} {d:D} {g:G} (h:g[t]?=some (.lst ds)) (h0:0≤i) (hp:ds[i.toNat]?=some d):pIx (.ref t) (.int i) g=.ok d g:=by
 have e:((i.toNat:Nat):Int)=i:=by omega
 rw [← e]; exact QhD h hp
theorem QF {g:G} {l:Nat} {ds:List D} (h:g[l]?=some (.lst ds)):Qr g (.ref l)=some (true,ds):=by unfold Qr; dsimp only; rw [h]
end L3
end
section
namespace L3
open PySem
theorem Qks:Str.ofString "one" = ⟨#[111,110,101]⟩:=by decide +kernel
theorem QhE:Str.ofString "many" = ⟨#[109,97,110,121]⟩:=by decide +kernel
theorem Qca:(Str.ofString "many" == Str.ofString "one")=false:=by rw [Qks,QhE]; rfl
theorem Qg1:(Str.ofString "one" == Str.ofString "many")=false:=by rw [Qks,QhE]; rfl
theorem Zq (s:Str):(s == s)=true:=beq_self_eq_true s
inductive Tk where
 | one (s:Int) | many (w:List Int) (k:Int)
noncomputable def tkD:Tk->D
 | .one s=>.tup [.str (Str.ofString "one"),.int s]
 | .many w k=>.tup [.str (Str.ofString "many"),.tup (w.map .int),.int k]
noncomputable def TkOk:Tk->Prop
 | .one s=>0≤s
 | .many w k=>w≠[]∧(∀ x∈w,0≤x)∧0≤k∧w.length≤20∧k≤5
noncomputable def Qbu (c:Nat):Tk->List Int
 | .one s=>[s]
 | .many w k=>(List.replicate (c+k.toNat) w).flatten
noncomputable def Qv (c:Nat) (ts:List Tk):List Int:=ts.flatMap (Qbu c)
noncomputable def Zf:Tk->Tk
 | .one s=>.one s
 | .many w k=>.many w (k+1)
theorem Qdn {c:Nat} {t:Tk} (h:TkOk t):Qbu c (Zf t)=Qbu (c+1) t:=by
 cases t with
 | one s=>rfl
 | many w k =>
  have hk:0≤k:=h.2.2.1
  show(List.replicate (c+(k+1).toNat) w).flatten=(List.replicate (c+1+k.toNat) w).flatten
  rw [show c+(k+1).toNat=c+1+k.toNat by omega]
theorem YW {c:Nat}:∀ {ts:List Tk},(∀ t∈ts,TkOk t)->Qv c (ts.map Zf)=Qv (c+1) ts
 | [],_=>rfl
 | t::r,h=>by
  have ih:=YW (c:=c) (ts:=r) fun x hx=>h x (List.mem_cons_of_mem _ hx)
  unfold Qv at ih ⊢
  rw [List.map_cons,List.flatMap_cons,List.flatMap_cons,ih,Qdn (h t (List.mem_cons_self ..))]
theorem Qcb (w:List Int):∀ k:Nat,(List.replicate k w).flatten.length=k*w.length
 | 0=>by simp
 | k+1=>by rw [List.replicate_succ,List.flatten_cons,List.length_append,Qcb w k,Nat.succ_mul,Nat.add_comm]
theorem Qbv {c:Nat} {t:Tk} (h:TkOk t) (hc:c≤20):(Qbu c t).length≤500:=by
 cases t with
 | one s=>show 1≤500; decide
 | many w k =>
  obtain⟨_,_,h3,h4,h5⟩:=h
  show(List.replicate (c+k.toNat) w).flatten.length≤500
  rw [Qcb]
  exact Nat.le_trans (Nat.mul_le_mul (show c+k.toNat≤25 by omega) h4) (by decide)
theorem Zj {c:Nat} (hc:c≤20):∀ {ts:List Tk},(∀ t∈ts,TkOk t)->(Qv c ts).length≤500*ts.length
 | [],_=>Nat.le_refl _
 | t::r,h=>by
  have ih:=Zj hc (ts:=r) fun x hx=>h x (List.mem_cons_of_mem _ hx)
  have h1:=Qbv (h t (List.mem_cons_self ..)) hc
  unfold Qv at ih ⊢
  rw [List.flatMap_cons,List.length_append,List.length_cons]; omega
theorem YG {n:Nat} (h:n≤100000):n<SZ:=Nat.lt_of_le_of_lt h (by decide)
theorem JF (i:Int) (g:G):Qn [.int i] g=.ok (.bl (decide (0≤i))) g:=rfl
theorem QfY (w:List Int):allB (w.map fun i=>D.bl (decide (0≤i)))=some (w.all fun i=>decide (0≤i)):=by
 induction w with
 | nil=>rfl
 | cons i r ih=>show(allB (r.map fun i=>D.bl (decide (0≤i)))).map (decide (0≤i) && ·)=_; rw [ih]; rfl
theorem Qcc {ds:List D} {e:ME} {g:G} {F:D->D} (hz:ds.length≤100000) (he:∀ d∈ds,∀ g1,Keeps [] g g1->∃ g2,e [some d] g1=.ok (F d) g2∧Keeps [] g1 g2) {src:Src} (htop:src.top=ds.length) (hs:∀ g1 i,Keeps [] g g1->src.at' g1 i=some ds[i]?) :
  ∃ g',YK src (gSet 0) Yj e (src.top+1) 0 [none] g []=.ok (ds.map F) g'∧Keeps [] g g':=by
 obtain⟨xs,σ',g',h1,h2,h3,_⟩:=ZQ (src:=src) (t:=gSet 0) (c:=Yj) (e:=e) (n:=ds.length)
  (fun i σ' g1 acc=>acc=(ds.take i).map F∧Keeps [] g g1∧∃ u,σ'=[u]) (fun i σ' g1 acc hi hQ=>by
   obtain⟨q1,q2,u,q3⟩:=hQ
   subst q3
   obtain⟨g2,k1,k2⟩:=he ds[i] (List.getElem_mem hi) g1 q2
   refine⟨ds[i],[some ds[i]],g1,by rw [hs g1 i q2]; simp [hi],rfl,.inl ⟨F ds[i],g2,rfl,k1,?_,q2.trans k2,_,rfl⟩⟩
   rw [q1,List.take_succ_eq_append_getElem hi,List.map_append]; rfl) (fun σ g1 acc hQ=>by rw [hs g1 _ hQ.2.1]; simp) (src.top+1) 0 [none] g [] (by omega) (by omega) ⟨rfl,.refl,none,rfl⟩
 rw [List.take_length] at h2
 subst h2
 exact⟨g',h1,h3⟩
theorem JG {a b:ME} {σ:S3} {g g1:G} {R:Res D} (h:a σ g=.ok (.bl true) g1) (h2:b σ g1=R):mAnd a b σ g=R:=by unfold mAnd; rw [h,Res.bind_ok]; exact h2
theorem Qd1 {a b:ME} {σ:S3} {g g1:G} (h:a σ g=.ok (.bl false) g1):mAnd a b σ g=.ok (.bl false) g1:=by unfold mAnd; rw [h,Res.bind_ok]; rfl
theorem QfZ (w:List Int) (g:G) (hz:w.length≤1000):∃ g',Yp [.tup (w.map .int)] g=.ok (.bl (decide (w≠[]) && w.all fun i=>decide (0≤i))) g'∧Keeps [] g g':=by
 obtain⟨g1,c1,k1⟩:=Qcc (ds:=w.map D.int) (e:=Qs Qn (Qa (mVar 0) mNil)) (g:=g) (F:=fun d=>match d with | .int i=>.bl (decide (0≤i)) | _=>.non) (src:=⟨fun _ i=>some (w.map D.int)[i]?,(w.map D.int).length⟩) (by rw [List.length_map]; omega) (fun d hd g1 _=>by
  obtain⟨i,_,rfl⟩:=List.mem_map.mp hd
  exact⟨g1,rfl,.refl⟩) rfl (fun _ _ _=>rfl)
 have c2:=YV (it:=QW (mVar 0)) (n:=1) (cap:=[]) (σ:=[some (.tup (w.map .int))]) (σ0:=[none]) (g:=g) rfl (by show(w.map D.int).length≤SZ; rw [List.length_map]; exact Nat.le_of_lt (YG (by omega))) rfl c1
 rw [List.map_map] at c2
 have hall:mOp1 pAll (Ya (QW (mVar 0)) 1 [] (gSet 0) Yj (Qs Qn (Qa (mVar 0) mNil))) [some (.tup (w.map .int))] g=.ok (.bl (w.all fun i=>decide (0≤i))) (g1++[.lst (w.map ((fun d=>match d with | .int i=>.bl (decide (0≤i)) | _=>.non) ∘ D.int))]):=QL c2 (by
  unfold pAll
  dsimp only
  rw [Ql]
  dsimp only
  rw [show(w.map ((fun d=>match d with | .int i=>D.bl (decide (0≤i)) | _=>.non) ∘ D.int))=w.map fun i=>D.bl (decide (0≤i)) from rfl,QfY])
 have hl:mOp2 pGt (mOp1 pLen (mVar 0)) (mLit (.int 0)) [some (.tup (w.map .int))] g=.ok (.bl (decide ((0:Int)<((w.map D.int).length:Nat)))) g:=rfl
 rw [List.length_map] at hl
 have kk:Keeps [] g (g1++[.lst (w.map ((fun d=>match d with | .int i=>.bl (decide (0≤i)) | _=>.non) ∘ D.int))]):=k1.trans (.push _)
 generalize g1++[.lst (w.map ((fun d=>match d with | .int i=>.bl (decide (0≤i)) | _=>.non) ∘ D.int))]=g2 at hall kk
 by_cases hw:w=[]
 ·subst hw
  exact⟨g,rfl,.refl⟩
 ·have:0<w.length:=List.length_pos_iff.mpr hw
  rw [decide_eq_true (by omega)] at hl
  rw [decide_eq_true hw,Bool.true_and]
  exact⟨g2,Q1 rfl (Q5 (JG (g1:=g) rfl (JG hl hall))),kk⟩
noncomputable def TokR (g:G) (d:D) (b:Bool):Prop:=∀ g1,Keeps [] g g1->∃ g2,Zt [d] g1=.ok (.bl b) g2∧Keeps [] g1 g2
theorem TokR.mono {g g':G} {d:D} {b:Bool} (h:TokR g d b) (k:Keeps [] g g'):TokR g' d b:=fun g1 k1=>h g1 (k.trans k1)
theorem eq_s (s t:Str) (g:G):pEq (.str s) (.str t) g=.ok (.bl (s == t)) g:=rfl
theorem QaV (x:Str) (y:D) (b:Bool) (g:G) (h:∀ g1,Qn [y] g1=.ok (.bl b) g1):TokR g (.tup [.str x,y]) ((x == Str.ofString "one") && b):=fun g1 _=>by
 refine⟨g1,Q1 rfl ?_,.refl⟩
 show ZJ [some (.tup [.str x,y])] g1=_
 unfold ZJ
 refine Qh [some (.tup [.str x,y])] g1 rfl (Ys (ift g1 rfl (Q5 ?_)))
 have e1:mOp2 pEq (mOp2 pIx (mVar 0) (mLit (.int 0))) (mLit (.str (Str.ofString "one"))) [some (.tup [.str x,y])] g1=.ok (.bl (x == Str.ofString "one")) g1:=rfl
 cases hx:(x == Str.ofString "one") with
 | true=>rw [hx] at e1; exact JG e1 (by rw [Qm (ds:=[y]) (g':=g1) rfl]; exact h g1)
 | false=>rw [hx] at e1; exact Qd1 e1
theorem Qas (x:Str) (v:D) (k:Int) (b:Bool) (g:G) (h:∀ g1,Keeps [] g g1->∃ g2,Yp [v] g1=.ok (.bl b) g2∧Keeps [] g1 g2):TokR g (.tup [.str x,v,.int k]) ((x == Str.ofString "many") && (b && decide (0≤k))):=fun g1 k1=>by
 have e1:mOp2 pEq (mOp2 pIx (mVar 0) (mLit (.int 0))) (mLit (.str (Str.ofString "many"))) [some (.tup [.str x,v,.int k])] g1=.ok (.bl (x == Str.ofString "many")) g1:=rfl
 obtain⟨g2,e2,k2⟩:=h g1 k1
 have e2':Qs Yp (Qa (mOp2 pIx (mVar 0) (mLit (.int 1))) mNil) [some (.tup [.str x,v,.int k])] g1=.ok (.bl b) g2:=by rw [Qm (ds:=[v]) (g':=g1) rfl]; exact e2
 have e3:Qs Qn (Qa (mOp2 pIx (mVar 0) (mLit (.int 2))) mNil) [some (.tup [.str x,v,.int k])] g2=.ok (.bl (decide (0≤k))) g2:=rfl
 have hh:∀ R g3,mAnd (mOp2 pEq (mOp2 pIx (mVar 0) (mLit (.int 0))) (mLit (.str (Str.ofString "many")))) (mAnd (Qs Yp (Qa (mOp2 pIx (mVar 0) (mLit (.int 1))) mNil)) (Qs Qn (Qa (mOp2 pIx (mVar 0) (mLit (.int 2))) mNil))) [some (.tup [.str x,v,.int k])] g1=.ok R g3->Zt [.tup [.str x,v,.int k]] g1=.ok R g3:=fun R g3 hR=>by
  refine Q1 rfl ?_
  show ZJ [some (.tup [.str x,v,.int k])] g1=_
  unfold ZJ
  exact Qh [some (.tup [.str x,v,.int k])] g1 rfl (Qh [some (.tup [.str x,v,.int k])] g1 rfl (Q5 (JG rfl hR)))
 cases hx:(x == Str.ofString "many") with
 | false=>rw [hx] at e1; exact⟨g1,hh _ _ (Qd1 e1),.refl⟩
 | true =>
  rw [hx] at e1
  refine⟨g2,hh _ _ (JG e1 ?_),k2⟩
  cases b with
  | false=>exact Qd1 e2'
  | true=>exact JG e2' e3
theorem Qat {t:Tk} (h:TkOk t) (g:G):TokR g (tkD t) true:=by
 cases t with
 | one s =>
  have:=QaV (Str.ofString "one") (.int s) (decide (0≤s)) g fun _=>rfl
  rw [Zq,decide_eq_true (show 0≤s from h)] at this
  exact this
 | many w k =>
  obtain⟨h1,h2,h3,h4,_⟩:=h
  have:=Qas (Str.ofString "many") (.tup (w.map .int)) k _ g fun g1 _=>QfZ w g1 (by omega)
  rw [Zq,decide_eq_true h1,decide_eq_true h3,List.all_eq_true.mpr fun x hx=>decide_eq_true (h2 x hx)] at this
  exact this
end L3
end
section
namespace L3
open PySem
theorem Qf {g g1:G} {x:D} {p:Bool×List D} (h:Qr g x=some p) (k:Keeps [] g g1):Qr g1 x=some p:=by
 cases x with
 | ref n =>
  unfold Qr at h ⊢
  dsimp only at h ⊢
  cases hg:g[n]? with
  | none=>rw [hg] at h; cases h
  | some o =>
   rw [hg] at h
   rw [k.at' _ _ (by simp) hg]
   exact h
 | _=>exact h
theorem Qcd {g:G} {x:D} {b:Bool} {xs:List D} (h:Qr g x=some (b,xs)):tyOf g x=some (if b then .list else .tuple):=by
 cases x with
 | ref n =>
  unfold Qr at h
  unfold tyOf
  dsimp only at h ⊢
  cases hg:g[n]? with
  | none=>rw [hg] at h; cases h
  | some o =>
   rw [hg] at h
   cases o with
   | lst ds=>cases h; rfl
   | _=>cases h
 | tup ds=>cases h; rfl
 | fl ds=>cases h; rfl
 | _=>cases h
theorem Qbw {g:G} {x:D} {b:Bool} {xs:List D} (h:Qr g x=some (b,xs)):∃ src,Qcz x g=.ok src g∧src.top=xs.length∧∀ g1 i,Qr g1 x=some (b,xs)->src.at' g1 i=some xs[i]?:=by
 cases x with
 | ref n =>
  unfold Qr at h
  dsimp only at h
  cases hg:g[n]? with
  | none=>rw [hg] at h; cases h
  | some o =>
   rw [hg] at h
   cases o with
   | lst ds =>
    cases h
    refine⟨⟨fun g i=>(match g[n]? with | some (.lst es)=>some es[i]? | _=>none),xs.length⟩,(by unfold Qcz; dsimp only; rw [hg]; try rfl),rfl,fun g1 i h1=>?_⟩
    unfold Qr at h1
    dsimp only at h1 ⊢
    cases hg1:g1[n]? with
    | none=>rw [hg1] at h1; cases h1
    | some o1 =>
     rw [hg1] at h1
     cases o1 with
     | lst es=>cases h1; rfl
     | _=>cases h1
   | _=>cases h
 | tup ds=>cases h; exact⟨⟨fun _ i=>some xs[i]?,xs.length⟩,rfl,rfl,fun _ _ _=>rfl⟩
 | fl ds=>cases h; exact⟨⟨fun _ i=>some xs[i]?,xs.length⟩,rfl,rfl,fun _ _ _=>rfl⟩
 | _=>cases h
theorem QiN (bs:List Bool):allB (bs.map D.bl)=some (bs.all id):=by
 induction bs with
 | nil=>rfl
 | cons b r ih=>show(allB (r.map D.bl)).map (b && ·)=_; rw [ih]; rfl
noncomputable def tokB (F:D->Bool) (d:D):D:=.bl (F d)
theorem Z8 {g:G} {x:D} {b:Bool} {ds:List D} (F:D->Bool) (h:Qr g x=some (b,ds)) (hz:ds.length≤1000) (hF:∀ d∈ds,TokR g d (F d)) :
  ∃ g',Keeps [] g g'∧((ds.all F=true∧Qq [x] g=.ok .non g')∨(ds.all F=false∧Qq [x] g=.raise (7,none) g')):=by
 obtain⟨src,s1,s2,s3⟩:=Qbw h
 obtain⟨g1,c1,k1⟩:=Qcc (ds:=ds) (e:=Qs Zt (Qa (mVar 0) mNil)) (g:=g) (F:=tokB F) (src:=src) (by omega) (fun d hd g1 k=>by
  obtain⟨g2,e,k2⟩:=hF d hd g1 k
  exact⟨g2,by rw [Qm (ds:=[d]) (g':=g1) rfl]; exact e,k2⟩) s2 (fun g1 i k=>s3 g1 i (Qf h k))
 have c2:=YV (it:=QW (mVar 0)) (n:=1) (cap:=[]) (σ:=[some x]) (t:=gSet 0) (c:=Yj) (σ0:=[none]) (g:=g) (by
  unfold QW
  rw [show mVar 0 [some x] g=.ok x g from rfl,Res.bind_ok]
  exact s1) (by rw [s2]; exact Nat.le_of_lt (YG (by omega))) rfl c1
 have hm:ds.map (tokB F)=(ds.map F).map D.bl:=by rw [List.map_map]; rfl
 rw [hm] at c2
 have hall:mOp1 pAll (Ya (QW (mVar 0)) 1 [] (gSet 0) Yj (Qs Zt (Qa (mVar 0) mNil))) [some x] g=.ok (.bl (ds.all F)) (g1++[.lst ((ds.map F).map D.bl)]):=QL c2 (by
  unfold pAll
  dsimp only
  rw [Ql]
  dsimp only
  rw [QiN,List.all_map]; rfl)
 have kk:Keeps [] g (g1++[.lst ((ds.map F).map D.bl)]):=k1.trans (.push _)
 generalize g1++[GO.lst ((ds.map F).map D.bl)]=g2 at hall kk
 have hsq:Qp (mOp1 Qbs (mVar 0)) [some x] g=.ok true g:=QC (QL (x:=x) (g1:=g) rfl (by unfold Qbs; rw [Qcd h]; cases b <;> rfl))
 have ht:∀ v,ds.all F=v->mOrT (ZG (Qp (mOp1 Qbs (mVar 0)))) (ZG (Qp (mOp1 pAll (Ya (QW (mVar 0)) 1 [] (gSet 0) Yj (Qs Zt (Qa (mVar 0) mNil)))))) [some x] g=.ok (!v) g2:=fun v hv=>by
  unfold mOrT
  rw [YF hsq,Res.bind_ok,if_neg Bool.false_ne_true]
  unfold ZG
  rw [QC hall,hv]; rfl
 refine⟨g2,kk,?_⟩
 cases hv:ds.all F with
 | true=>exact .inl ⟨rfl,QhC (σ:=[some x]) rfl (iff' g2 (ht _ hv) rfl)⟩
 | false=>exact .inr ⟨rfl,Ze (σ:=[some x]) rfl (ift g2 (ht _ hv) rfl)⟩
noncomputable def lrS (f:Str):Prop:=f=Str.ofString "l" ∨ f=Str.ofString "r"
theorem Zv {a b:MS} {σ σ':S3} {x:Xc} {g g':G} (h:a σ g=.raise x σ' g'):mSeq a b σ g=.raise x σ' g':=by unfold mSeq; rw [h]
theorem YC {a:ME} {σ:S3} {x:Xc} {g g':G} (h:a σ g=.raise x g'):Zw a σ g=.raise x σ g':=by unfold Zw; rw [h]
theorem Qkt {x:D} {g:G} (hx:JK x=true):pIn true x (.tup [.str (Str.ofString "l"),.str (Str.ofString "r")]) g=.ok (.bl (!(eqF (.str (Str.ofString "l")) x || (eqF (.str (Str.ofString "r")) x || false)))) g:=by
 unfold pIn Qr
 dsimp only
 rw [if_pos ⟨hx,rfl⟩]
 rfl
theorem Yt {st:Int} {f L R:D} {g:G} (h0:0≤st) (hf:pIn true f (.tup [.str (Str.ofString "l"),.str (Str.ofString "r")]) g=.ok (.bl false) g) (Q:Out) (hQ:mSeq (Zw (Qs Qq (Qa (mOp2 pIx (mVar 0) (mLit (.int 2))) mNil))) (Zw (Qs Qq (Qa (mOp2 pIx (mVar 0) (mLit (.int 3))) mNil))) [some (.tup [.int st,f,L,R])] g=Q):QM [some (.tup [.int st,f,L,R])] g=Q:=by
 unfold QM
 have t2:Qp (Qs Qn (Qa (mOp2 pIx (mVar 0) (mLit (.int 0))) mNil)) [some (.tup [.int st,f,L,R])] g=.ok true g:=QC (by rw [Qm (ds:=[.int st]) (g':=g) rfl,JF,decide_eq_true h0])
 exact Qh [some (.tup [.int st,f,L,R])] g rfl (Qh [some (.tup [.int st,f,L,R])] g (iff' g (YF t2) rfl) (Qh [some (.tup [.int st,f,L,R])] g (iff' g (QC (Qj (x:=f) (g1:=g) (g2:=g) rfl rfl hf)) rfl) hQ))
theorem Qf0 {f:Str} (h:lrS f) (g:G):pIn true (.str f) (.tup [.str (Str.ofString "l"),.str (Str.ofString "r")]) g=.ok (.bl false) g:=by
 rw [Qkt rfl]
 rcases h with rfl | rfl
 ·show Res.ok (D.bl (!((Str.ofString "l" == Str.ofString "l") || _))) g=_
  rw [Zq]; rfl
 ·show Res.ok (D.bl (!(_ || ((Str.ofString "r" == Str.ofString "r") || false)))) g=_
  rw [Zq,Bool.true_or,Bool.or_true]; rfl
theorem Jg {st:Int} {f:Str} {L R:D} {g:G} {b b':Bool} {ds es:List D} (F:D->Bool) (h0:0≤st) (hf:lrS f) (hL:Qr g L=some (b,ds)) (hR:Qr g R=some (b',es)) (hz:ds.length≤1000) (hz':es.length≤1000) (tL:∀ d∈ds,TokR g d (F d)) (tR:∀ d∈es,TokR g d (F d)) :
  ∃ g',Keeps [] g g'∧((ds.all F=true∧es.all F=true∧Q7 [.tup [.int st,.str f,L,R]] g=.ok .non g')∨(¬ (ds.all F=true∧es.all F=true)∧Q7 [.tup [.int st,.str f,L,R]] g=.raise (7,none) g')):=by
 obtain⟨g1,k1,h1⟩:=Z8 F hL hz tL
 have c1:Qs Qq (Qa (mOp2 pIx (mVar 0) (mLit (.int 2))) mNil) [some (.tup [.int st,.str f,L,R])] g=Qq [L] g:=Qm rfl
 rcases h1 with⟨a1,e1⟩ | ⟨a1,e1⟩
 ·obtain⟨g2,k2,h2⟩:=Z8 F (Qf hR k1) hz' (fun d hd=>(tR d hd).mono k1)
  have c2:Qs Qq (Qa (mOp2 pIx (mVar 0) (mLit (.int 3))) mNil) [some (.tup [.int st,.str f,L,R])] g1=Qq [R] g1:=Qm rfl
  refine⟨g2,k1.trans k2,?_⟩
  rcases h2 with⟨a2,e2⟩ | ⟨a2,e2⟩
  ·exact .inl ⟨a1,a2,QhC rfl (Yt h0 (Qf0 hf g) _ (Qh _ g1 (Z7 (c1.trans e1)) (Z7 (c2.trans e2))))⟩
  ·exact .inr ⟨fun z=>by rw [a2] at z; exact Bool.false_ne_true z.2,Ze rfl (Yt h0 (Qf0 hf g) _ (Qh _ g1 (Z7 (c1.trans e1)) (YC (c2.trans e2))))⟩
 ·exact⟨g1,k1,.inr ⟨fun z=>by rw [a1] at z; exact Bool.false_ne_true z.1,Ze rfl (Yt h0 (Qf0 hf g) _ (Zv (YC (c1.trans e1))))⟩⟩
end L3
end
section
namespace L3
open PySem
theorem QiO {w:List Int} {k:Int} {g:G} (h0:0≤k) (hk:k≤1000) (hz:w.length*k.toNat≤100000):pMul (.tup (w.map .int)) (.int k) g=.ok (.tup ((List.replicate k.toNat w).flatten.map .int)) g:=by
 unfold pMul
 dsimp only
 rw [if_pos ⟨⟨h0,by omega⟩,by rw [List.length_map]; exact Nat.le_of_lt (YG hz)⟩,List.map_flatten,List.map_replicate]
theorem QeB {n:Nat} {xs ys:List D} {σ:S3} {g:G} {o e:ME} (ho:o σ g=.ok (.ref n) g) (h:g[n]?=some (.lst xs)) (he:e σ g=.ok (.tup ys) g) (hz:xs.length+ys.length≤100000) :
  Zw (YS o e) σ g=.nx σ (g.set n (.lst (xs++ys))):=by
 refine Z7 (d:=.non) ?_
 unfold YS
 rw [ho,Res.bind_ok]
 dsimp only
 rw [h]
 dsimp only
 rw [he,Res.bind_ok]
 dsimp only
 rw [h]
 dsimp only
 rw [if_pos (Nat.le_of_lt (YG hz))]
theorem ZX {n:Nat} {ds:List D} {y:D} {σ:S3} {g:G} {o e:ME} (ho:o σ g=.ok (.ref n) g) (h:g[n]?=some (.lst ds)) (he:e σ g=.ok y g) (hz:ds.length≤100000):Zw (Yk o e) σ g=.nx σ (g.set n (.lst (ds++[y]))):=QfX ho h he (YG hz)
theorem QeC {c r:Nat} {t:Tk} {A:List Int} {x0:Option D} {g:G} (ht:TkOk t) (hc:c≤20) (hr:g[r]?=some (.lst (A.map .int))) (hz:A.length≤50000) :
  ZU [x0,some (.int c),some (.ref r),some (tkD t)] g=.nx [x0,some (.int c),some (.ref r),some (tkD t)] (g.set r (.lst ((A++Qbu c t).map .int))):=by
 have hcl:=Qbv ht hc
 unfold ZU
 cases t with
 | one s =>
  have t1:Qp (mOp2 pEq (mOp2 pIx (mVar 3) (mLit (.int 0))) (mLit (.str (Str.ofString "one")))) [x0,some (.int c),some (.ref r),some (tkD (.one s))] g=.ok (Str.ofString "one" == Str.ofString "one") g:=rfl
  rw [Zq] at t1
  refine(ift g t1 (ZX (y:=.int s) rfl hr rfl (by rw [List.length_map]; omega))).trans ?_
  rw [List.map_append]; rfl
 | many w k =>
  have t1:Qp (mOp2 pEq (mOp2 pIx (mVar 3) (mLit (.int 0))) (mLit (.str (Str.ofString "one")))) [x0,some (.int c),some (.ref r),some (tkD (.many w k))] g=.ok (Str.ofString "many" == Str.ofString "one") g:=rfl
  rw [Qca] at t1
  obtain⟨h1,h2,h3,h4,h5⟩:=ht
  have ek:((c:Int)+k).toNat=c+k.toNat:=by omega
  have hcl':(List.replicate (c+k.toNat) w).flatten.length≤500:=hcl
  have hm:mOp2 pMul (mOp2 pIx (mVar 3) (mLit (.int 1))) (mOp2 pAdd (mVar 1) (mOp2 pIx (mVar 3) (mLit (.int 2)))) [x0,some (.int c),some (.ref r),some (tkD (.many w k))] g=.ok (.tup ((List.replicate (c+k.toNat) w).flatten.map .int)) g:=by
   rw [← ek]
   refine Qj (x:=.tup (w.map .int)) (y:=.int (c+k)) (g1:=g) (g2:=g) rfl rfl (QiO (by omega) (by omega) ?_)
   rw [ek]
   exact Nat.le_trans (Nat.mul_le_mul h4 (show c+k.toNat≤25 by omega)) (by decide)
  refine(iff' g t1 (QeB rfl hr hm (by rw [List.length_map,List.length_map]; omega))).trans ?_
  rw [List.map_append]; rfl
theorem QaW {x:D} {b:Bool} {ts:List Tk} {c:Nat} {g:G} (hx:Qr g x=some (b,ts.map tkD)) (hok:∀ t∈ts,TkOk t) (hc:c≤20) (hl:ts.length≤60) :
  ∃ r g',Y6 [x,.int c] g=.ok (.ref r) g'∧g.length≤r∧g'[r]?=some (.lst ((Qv c ts).map .int))∧Keeps [] g g':=by
 have k0:Keeps [] g (g++[.lst []]):=.push _
 have p0:(g++[GO.lst []])[g.length]?=some (.lst []):=Ql _
 have hx0:=Qf hx k0
 obtain⟨src,s1,s2,s3⟩:=Qbw hx0
 have hnot:∀ g1,Keeps [g.length] (g++[.lst []]) g1->Qr g1 x=some (b,ts.map tkD):=fun g1 k=>by
  cases x with
  | ref n =>
   unfold Qr at hx ⊢
   dsimp only at hx ⊢
   cases hg:g[n]? with
   | none=>rw [hg] at hx; cases hx
   | some o =>
    rw [hg] at hx
    have:=Zd hg
    rw [k.at' _ _ (fun z=>by have:=List.mem_singleton.mp z; omega) (k0.at' _ _ (by simp) hg)]
    exact hx
  | _=>exact hx
 have hlen:src.top=ts.length:=by rw [s2,List.length_map]
 obtain⟨σ',g2,e2,⟨y3,i1⟩,i2,i3⟩:=Qb9 (src:=src) (t:=gSet 3) (body:=ZU) (n:=ts.length) (σ:=[some x,some (.int c),some (.ref g.length),none]) (g:=g++[.lst []]) hlen
  (fun i σ g2=>(∃ y3,σ=[some x,some (.int c),some (.ref g.length),y3])∧Keeps [g.length] (g++[.lst []]) g2∧g2[g.length]?=some (.lst ((Qv c (ts.take i)).map .int))) ⟨⟨none,rfl⟩,.refl,p0⟩ (fun i σ g2 hi hQ=>by
   obtain⟨⟨y3,i1⟩,i2,i3⟩:=hQ
   subst i1
   have htk:ts.take (i+1)=ts.take i++[ts[i]]:=List.take_succ_eq_append_getElem hi
   have hA:(Qv c (ts.take i)).length≤50000:=by
    have:=Zj hc (ts:=ts.take i) fun t ht=>hok t (List.mem_of_mem_take ht)
    rw [List.length_take] at this
    have:500*min i ts.length≤500*60:=Nat.mul_le_mul_left _ (by omega)
    omega
   refine⟨tkD ts[i],_,_,_,by rw [s3 g2 i (hnot g2 i2),List.getElem?_map,List.getElem?_eq_getElem hi]; rfl,rfl,QeC (hok _ (List.getElem_mem hi)) hc i3 hA,⟨_,rfl⟩,i2.trans (.set _ _),?_⟩
   rw [Zs i3,htk]
   unfold Qv
   rw [List.flatMap_append]
   simp) (fun σ g2 hQ=>by rw [s3 g2 _ (hnot g2 hQ.2.1),List.getElem?_eq_none (by rw [List.length_map]; exact Nat.le_refl _)])
 subst i1
 rw [List.take_length] at i3
 refine⟨g.length,g2,Q1 rfl ?_,Nat.le_refl _,i3,⟨Nat.le_trans k0.len i2.len,fun j o _ h=>i2.at' _ _ (fun z=>by have:=Zd h; have:=List.mem_singleton.mp z; omega) (k0.at' _ _ (by simp) h)⟩⟩
 show JT [some x,some (.int c),none,none] g=_
 unfold JT
 refine Qh [some x,some (.int c),some (.ref g.length),none] (g++[.lst []]) (QE rfl) (Qh _ g2 ((QaU ?_).trans e2) rfl)
 unfold QW
 rw [show mVar 0 [some x,some (.int c),some (.ref g.length),none] (g++[.lst []])=.ok x (g++[.lst []]) from rfl,Res.bind_ok]
 exact s1
theorem Qf1 {c:Nat} {w:List Int} {k:Int} {A:List Int} {r:Nat} {x0:Option D} {g:G} (n:Nat) (hr:g[r]?=some (.lst (A.map .int))) (hz:A.length+n*w.length≤60000) (x4:Option D) :
  ∃ r' y4 g',forL (Zg 0 n) (gSet 4) YU (n+1) 0 [x0,some (.int c),some (.ref r),some (tkD (.many w k)),x4] g=.nx [x0,some (.int c),some (.ref r'),some (tkD (.many w k)),y4] g'∧g'[r']?=some (.lst ((A++(List.replicate n w).flatten).map .int))∧Keeps [] g g'∧(r'=r∨g.length≤r'):=by
 obtain⟨σ',g',e,r',y4,i1,i2,i3,i5⟩:=QaT (t:=gSet 4) (body:=YU) (lo:=0) (n:=n) (σ:=[x0,some (.int c),some (.ref r),some (tkD (.many w k)),x4]) (g:=g)
  (fun i σ g1=>∃ r' y4,σ=[x0,some (.int c),some (.ref r'),some (tkD (.many w k)),y4]∧g1[r']?=some (.lst ((A++(List.replicate i w).flatten).map .int))∧Keeps [] g g1∧(r'=r∨g.length≤r')) ⟨r,x4,rfl,by simpa using hr,.refl,.inl rfl⟩ (fun i σ g1 hi hQ=>by
   obtain⟨r',y4,i1,i2,i3,i5⟩:=hQ
   subst i1
   have hk:Keeps [] g1 (g1++[.lst (w.map .int)]):=.push _
   have e1:mOp1 Qaa (mOp2 pIx (mVar 3) (mLit (.int 1))) [x0,some (.int c),some (.ref r'),some (tkD (.many w k)),some (.int (0+i))] g1=.ok (.ref g1.length) (g1++[.lst (w.map .int)]):=rfl
   have p1:(g1++[GO.lst (w.map .int)])[g1.length]?=some (.lst (w.map .int)):=Ql _
   have i2':=hk.at' _ _ (by simp) i2
   generalize g1++[GO.lst (w.map .int)]=g2 at hk e1 p1 i2'
   have hlen:(A++(List.replicate i w).flatten).length+w.length≤60000:=by
    rw [List.length_append,Qcb]
    have:(i+1)*w.length≤n*w.length:=Nat.mul_le_mul_right _ (by omega)
    rw [Nat.add_mul,Nat.one_mul] at this
    omega
   refine⟨_,[x0,some (.int c),some (.ref g2.length),some (tkD (.many w k)),some (.int (0+i))],g2++[.lst ((A++(List.replicate i w).flatten).map .int++w.map .int)],rfl,?_,g2.length,_,rfl,?_,i3.trans (hk.trans (.push _)),.inr (Nat.le_trans i3.len hk.len)⟩
   ·refine QE (Qj (x:=.ref r') (y:=.ref g1.length) (g1:=g1) (g2:=g2) rfl e1 ?_)
    unfold pAdd
    dsimp only
    rw [i2',p1]
    dsimp only
    rw [if_pos (Nat.le_of_lt (YG (by rw [List.length_map,List.length_map]; omega)))]
   ·rw [Ql,← List.map_append,List.append_assoc,List.replicate_succ',List.flatten_append]
    simp)
 exact⟨r',y4,g',by rw [e,i1],i2,i3,i5⟩
end L3
end
section
namespace L3
open PySem
theorem Qdo {c r N:Nat} {t:Tk} {A:List Int} {x0 x4:Option D} {g0 g:G} (ht:TkOk t) (hc:c≤20) (hr:g[r]?=some (.lst (A.map .int))) (hN:g0.length≤r) (k0:Keeps [] g0 g) (hz:A.length≤50000) :
  ∃ r' y4 g',Yg [x0,some (.int c),some (.ref r),some (tkD t),x4] g=.nx [x0,some (.int c),some (.ref r'),some (tkD t),y4] g'∧g'[r']?=some (.lst ((A++Qbu c t).map .int))∧Keeps [] g0 g'∧g0.length≤r':=by
 unfold Yg
 cases t with
 | one s =>
  have t1:Qp (mOp2 pEq (mOp2 pIx (mVar 3) (mLit (.int 0))) (mLit (.str (Str.ofString "one")))) [x0,some (.int c),some (.ref r),some (tkD (.one s)),x4] g=.ok (Str.ofString "one" == Str.ofString "one") g:=rfl
  rw [Zq] at t1
  refine⟨r,x4,_,ift g t1 (ZX (y:=.int s) rfl hr rfl (by rw [List.length_map]; omega)),?_,⟨by rw [List.length_set]; exact k0.len,fun i o _ h=>?_⟩,hN⟩
  ·rw [Zs hr,List.map_append]; rfl
  ·have:=Zd h
   rw [List.getElem?_set_ne (by omega)]
   exact k0.at' _ _ (by simp) h
 | many w k =>
  have t1:Qp (mOp2 pEq (mOp2 pIx (mVar 3) (mLit (.int 0))) (mLit (.str (Str.ofString "one")))) [x0,some (.int c),some (.ref r),some (tkD (.many w k)),x4] g=.ok (Str.ofString "many" == Str.ofString "one") g:=rfl
  rw [Qca] at t1
  obtain⟨h1,h2,h3,h4,h5⟩:=ht
  have hb:(c+k.toNat)*w.length≤25*20:=Nat.mul_le_mul (by omega) h4
  obtain⟨r',y4,g',e,i2,i3,i5⟩:=Qf1 (c:=c) (k:=k) (x0:=x0) (c+k.toNat) hr (Nat.le_trans (Nat.add_le_add hz hb) (by decide)) x4
  refine⟨r',y4,g',iff' g t1 ?_,i2,k0.trans i3,?_⟩
  ·refine(QaU (JE (n:=c+k.toNat) ?_ (QfW (by omega)))).trans e
   refine Qj (x:=.int c) (y:=.int k) (g1:=g) (g2:=g) rfl rfl ?_
   show Res.ok (D.int ((c:Int)+k)) g=_
   rw [show((c:Int)+k)=((c+k.toNat:Nat):Int) by omega]
  ·rcases i5 with rfl | z
   ·exact hN
   ·exact Nat.le_trans k0.len z
theorem QcU {x:D} {b:Bool} {ts:List Tk} {c:Nat} {g:G} (hx:Qr g x=some (b,ts.map tkD)) (hok:∀ t∈ts,TkOk t) (hc:c≤20) (hl:ts.length≤60) :
  ∃ r g',JA [x,.int c] g=.ok (.ref r) g'∧g.length≤r∧g'[r]?=some (.lst ((Qv c ts).map .int))∧Keeps [] g g':=by
 have k0:Keeps [] g (g++[.lst []]):=.push _
 have p0:(g++[GO.lst []])[g.length]?=some (.lst []):=Ql _
 obtain⟨src,s1,s2,s3⟩:=Qbw (Qf hx k0)
 have hlen:src.top=ts.length:=by rw [s2,List.length_map]
 obtain⟨σ',g2,e2,⟨r,y3,y4,i1,i4,i3⟩,i2⟩:=Qb9 (src:=src) (t:=gSet 3) (body:=Yg) (n:=ts.length) (σ:=[some x,some (.int c),some (.ref g.length),none,none]) (g:=g++[.lst []]) hlen
  (fun i σ g2=>(∃ r y3 y4,σ=[some x,some (.int c),some (.ref r),y3,y4]∧g.length≤r∧g2[r]?=some (.lst ((Qv c (ts.take i)).map .int)))∧Keeps [] g g2) ⟨⟨g.length,none,none,rfl,Nat.le_refl _,p0⟩,k0⟩ (fun i σ g2 hi hQ=>by
   obtain⟨⟨r,y3,y4,i1,i4,i3⟩,i2⟩:=hQ
   subst i1
   have htk:ts.take (i+1)=ts.take i++[ts[i]]:=List.take_succ_eq_append_getElem hi
   have hA:(Qv c (ts.take i)).length≤50000:=by
    have:=Zj hc (ts:=ts.take i) fun t ht=>hok t (List.mem_of_mem_take ht)
    rw [List.length_take] at this
    have:500*min i ts.length≤500*60:=Nat.mul_le_mul_left _ (by omega)
    omega
   obtain⟨r',z4,g3,e3,q1,q2,q3⟩:=Qdo (N:=0) (x0:=some x) (x4:=y4) (hok _ (List.getElem_mem hi)) hc i3 i4 i2 hA
   refine⟨tkD ts[i],_,_,g3,by rw [s3 g2 i (Qf hx i2),List.getElem?_map,List.getElem?_eq_getElem hi]; rfl,rfl,e3,⟨r',_,_,rfl,q3,?_⟩,q2⟩
   rw [q1,htk]
   unfold Qv
   rw [List.flatMap_append]
   simp) (fun σ g2 hQ=>by rw [s3 g2 _ (Qf hx hQ.2),List.getElem?_eq_none (by rw [List.length_map]; exact Nat.le_refl _)])
 subst i1
 rw [List.take_length] at i3
 refine⟨r,g2,Q1 rfl ?_,i4,i3,i2⟩
 show QaQ [some x,some (.int c),none,none,none] g=_
 unfold QaQ
 refine Qh [some x,some (.int c),some (.ref g.length),none,none] (g++[.lst []]) (QE rfl) (Qh _ g2 ((QaU ?_).trans e2) rfl)
 unfold QW
 rw [show mVar 0 [some x,some (.int c),some (.ref g.length),none,none] (g++[.lst []])=.ok x (g++[.lst []]) from rfl,Res.bind_ok]
 exact s1
noncomputable def Q6:List Int->Int->List (Int×Int)
 | [],_=>[]
 | s::r,p=>if s≠0 then (p,s)::Q6 r (p+1) else Q6 r (p+1)
theorem Jq (s:Int):∀(A:List Int) (p:Int),Q6 (A++[s]) p=Q6 A p++(if s≠0 then [(p+A.length,s)] else [])
 | [],p=>by
  show(if s≠0 then [(p,s)] else [])=if s≠0 then [(p+((0:Nat):Int),s)] else []
  rw [show p+((0:Nat):Int)=p by omega]
 | a::r,p=>by
  have ih:=Jq s r (p+1)
  have e:p+1+(r.length:Int)=p+((a::r).length:Nat):=by rw [List.length_cons]; omega
  rw [e] at ih
  show(if a≠0 then (p,a)::Q6 (r++[s]) (p+1) else Q6 (r++[s]) (p+1))=(if a≠0 then (p,a)::Q6 r (p+1) else Q6 r (p+1))++_
  rw [ih]
  by_cases h:a≠0
  ·rw [if_pos h,if_pos h]; rfl
  ·rw [if_neg h,if_neg h]
theorem QaX:∀(A:List Int) (p:Int),∀ q∈Q6 A p,p≤q.1∧q.1<p+A.length
 | [],_,q,h=>by cases h
 | a::r,p,q,h=>by
  have ih:=QaX r (p+1)
  rw [List.length_cons]
  unfold Q6 at h
  split at h
  ·rcases List.mem_cons.mp h with e | h
   ·subst e; exact⟨Int.le_refl _,by show p<p+_; omega⟩
   ·have:=ih q h; omega
  ·have:=ih q h; omega
theorem QaY:∀(A:List Int) (p:Int),(Q6 A p).Pairwise fun a b=>a.1<b.1
 | [],_=>.nil
 | a::r,p=>by
  unfold Q6
  split
  ·exact List.pairwise_cons.mpr ⟨fun q hq=>by have:=QaX r (p+1) q hq; show p<q.1; omega,QaY r (p+1)⟩
  ·exact QaY r (p+1)
theorem JX:∀(A:List Int) (p:Int),(Q6 A p).length≤A.length
 | [],_=>Nat.le_refl _
 | a::r,p=>by
  have:=JX r (p+1)
  unfold Q6
  split
  ·rw [List.length_cons,List.length_cons]; omega
  ·rw [List.length_cons]; omega
noncomputable def stD (p:Int×Int):D:=.tup [.int p.1,.int p.2]
noncomputable def Jr (st:Int) (f:Str) (c:Nat) (L R:List Tk):D:=.tup [.int st,.int (if (f == Str.ofString "r")=true then 0 else -1),.tup ((Q6 (Qv c L++Qv c R) (-((Qv c L).length:Int))).map stD)]
end L3
end
section
namespace L3
open PySem
noncomputable def UpP (M:List (Int×Int)):Prop:=M.Pairwise fun a b=>a.1<b.1
noncomputable def Qk7 (st here:Int) (M:List (Int×Int)):D:=.tup [.int st,.int here,.tup (M.map stD)]
noncomputable def Cells (ks:List (DK×D)) (M:List (Int×Int)):Prop:=(∃ is,JS ks=some is∧is.Perm (M.map (·.1)))∧∀ q∈M,dGet ks (.inl q.1)=some (.int q.2)
theorem Qdp {d:Nat} {ks:List (DK×D)} {M:List (Int×Int)} {o:ME} {σ:S3} {g:G} (hU:UpP M) (hM:M.length≤60000) (ho:o σ g=.ok (.ref d) g) (hd:g[d]?=some (.dct ks)) (hc:Cells ks M) :
  ∃ z g',mOp1 JQ (mOp1 Qdm o) σ g=.ok (.ref z) g'∧Keeps [] g g'∧g.length≤z∧g'[z]?=some (.lst (M.map fun q:Int×Int=>D.int q.1)):=by
 obtain⟨⟨is,hk,hp⟩,_⟩:=hc
 have hl:is.length=M.length:=by rw [hp.length_eq,List.length_map]
 have e1:mOp1 Qdm o σ g=.ok (.ref g.length) (g++[.lst (is.map .int)]):=QL ho (by
  unfold Qdm
  dsimp only
  rw [hd]
  dsimp only
  rw [hk]
  dsimp only
  rw [if_pos (by omega)])
 have es:QaK is=M.map (·.1):=Jn _ _ ((Y5 is).trans hp) (YR is) (List.pairwise_map.mpr (hU.imp fun h=>Int.le_of_lt h))
 have hb:∀ is:List Int,QcB (is.map D.int)=some is:=fun is=>by
  induction is with
  | nil=>rfl
  | cons i r ih=>show(QcB (r.map D.int)).map (i :: ·)=_; rw [ih]; rfl
 refine⟨(g++[GO.lst (is.map .int)]).length,g++[.lst (is.map .int)]++[.lst ((M.map (·.1)).map .int)],QL e1 ?_,(Keeps.push _).trans (.push _),by simp,?_⟩
 ·unfold JQ
  rw [QF (Ql _)]
  dsimp only
  rw [hb]
  dsimp only
  rw [es]
 ·rw [Ql,List.map_map]; rfl
theorem Qg2 {st here:Int} {d:Nat} {ks:List (DK×D)} {M:List (Int×Int)} {g:G} (hU:UpP M) (hM:M.length≤60000) (hd:g[d]?=some (.dct ks)) (hc:Cells ks M) :
  ∃ g',JC [.tup [.int st,.int here,.ref d]] g=.ok (Qk7 st here M) g'∧Keeps [] g g':=by
 obtain⟨z,g1,e1,k1,hz0,hz⟩:=Qdp (o:=mVar 3) (σ:=[some (.tup [.int st,.int here,.ref d]),some (.int st),some (.int here),some (.ref d)]) hU hM rfl hd hc
 have hd1:=k1.at' _ _ (by simp) hd
 have hit:QW (mOp1 JQ (mOp1 Qdm (mVar 3))) [some (.tup [.int st,.int here,.ref d]),some (.int st),some (.int here),some (.ref d)] g=.ok (srcL z (M.map fun q:Int×Int=>D.int q.1).length) g1:=by
  unfold QW
  rw [e1,Res.bind_ok]
  unfold Qcz
  dsimp only
  rw [hz]
  try rfl
 have hl:(M.map fun q:Int×Int=>D.int q.1).length=M.length:=List.length_map _
 obtain⟨xs,σ',g3,c1,c2,c3,_⟩:=ZQ (src:=srcL z (M.map fun q:Int×Int=>D.int q.1).length) (t:=gSet 0) (c:=Yj) (e:=mOpA pTup (Qa (mVar 0) (Qa (mOp2 pDIx (mVar 1) (mVar 0)) mNil))) (n:=(M.map fun q:Int×Int=>D.int q.1).length)
  (fun i σ' g4 acc=>acc=(M.take i).map stD∧g4=g1∧∃ u,σ'=[u,some (.ref d)]) (fun i σ' g4 acc hi hQ=>by
   obtain⟨q1,q2,u,q3⟩:=hQ
   subst q2 q3
   have hi':i<M.length:=by omega
   have hget:=hc.2 M[i] (List.getElem_mem hi')
   have ed:mOp2 pDIx (mVar 1) (mVar 0) [some (.int M[i].1),some (.ref d)] g4=.ok (.int M[i].2) g4:=Qj (x:=.ref d) (y:=.int M[i].1) (g1:=g4) (g2:=g4) rfl rfl (by unfold pDIx; dsimp only; rw [hd1]; dsimp only; rw [hget])
   refine⟨.int M[i].1,[some (.int M[i].1),some (.ref d)],g4,?_,rfl,.inl ⟨stD M[i],g4,rfl,Zp (Qd (g1:=g4) rfl (Qd ed rfl)) rfl,?_,rfl,_,rfl⟩⟩
   ·show(match g4[z]? with | some (.lst es)=>some es[i]? | _=>none)=_
    rw [hz]; dsimp only; rw [List.getElem?_map,List.getElem?_eq_getElem hi']; rfl
   ·rw [q1,List.take_succ_eq_append_getElem hi',List.map_append]; rfl) (fun σ g4 acc hQ=>by
   show(match g4[z]? with | some (.lst es)=>some es[(M.map fun q:Int×Int=>D.int q.1).length]? | _=>none)=_
   rw [hQ.2.1,hz]; dsimp only; rw [List.getElem?_eq_none (Nat.le_refl _)]) ((M.map fun q:Int×Int=>D.int q.1).length+1) 0 [none,some (.ref d)] g1 [] (by omega) (by omega) ⟨rfl,rfl,none,rfl⟩
 rw [hl,List.take_length] at c2
 subst c2 c3
 have c4:=YV (n:=1) (cap:=[3]) (t:=gSet 0) (c:=Yj) (σ0:=[none,some (.ref d)]) hit (Nat.le_of_lt (YG (show(M.map fun q:Int×Int=>D.int q.1).length≤100000 by omega))) rfl c1
 refine⟨_,Q1 rfl ?_,k1.trans (.push (.lst (M.map stD)))⟩
 show Qb5 [some (.tup [.int st,.int here,.ref d]),none,none,none] g=_
 unfold Qb5
 refine Qh [some (.tup [.int st,.int here,.ref d]),some (.int st),some (.int here),some (.ref d)] g rfl (Q5 (Zp (Qd (g1:=g) rfl (Qd (g1:=g) rfl (Qd (QL c4 ?_) rfl))) rfl))
 unfold ZH
 dsimp only
 rw [Ql]
theorem Qd2 (k j:DK) (v:D):∀ ks:List (DK×D),dGet (ks.map fun p=>if p.1=k then (p.1,v) else p) j=(dGet ks j).map fun x=>if j=k then v else x
 | []=>rfl
 | p::r=>by
  have ih:=Qd2 k j v r
  unfold dGet at ih ⊢
  rw [List.map_cons,List.find?_cons,List.find?_cons]
  by_cases h:p.1=j
  ·have e:decide ((if p.1=k then (p.1,v) else p).1=j)=true:=by split <;> exact decide_eq_true h
   rw [e,decide_eq_true h]
   subst h
   by_cases hk:p.1=k <;> simp [hk]
  ·have e:decide ((if p.1=k then (p.1,v) else p).1=j)=false:=by split <;> exact decide_eq_false h
   rw [e,decide_eq_false h]
   exact ih
theorem Qd3 (k:DK):∀ ks:List (DK×D),(ks.any fun p=>decide (p.1=k))=(dGet ks k).isSome
 | []=>rfl
 | p::r=>by
  have ih:=Qd3 k r
  unfold dGet at ih ⊢
  rw [List.any_cons,List.find?_cons]
  by_cases h:p.1=k
  ·rw [decide_eq_true h]; rfl
  ·rw [decide_eq_false h]; exact ih
theorem Qd4 (k j:DK) (v:D):∀ ks:List (DK×D),dGet ks k=none->dGet (ks++[(k,v)]) j=if j=k then some v else dGet ks j
 | [],_=>by
  unfold dGet
  by_cases h:j=k
  ·subst h; simp
  ·simp [h,Ne.symm h]
 | p::r,hn=>by
  have hp:¬ p.1=k:=fun h=>by unfold dGet at hn; rw [List.find?_cons,decide_eq_true h] at hn; cases hn
  have hr:dGet r k=none:=by unfold dGet at hn ⊢; rw [List.find?_cons,decide_eq_false hp] at hn; exact hn
  have ih:=Qd4 k j v r hr
  unfold dGet at ih ⊢
  rw [List.cons_append,List.find?_cons,List.find?_cons]
  by_cases h:p.1=j
  ·rw [decide_eq_true h,if_neg (fun z=>hp (h.trans z))]
  ·rw [decide_eq_false h]; exact ih
theorem Qg3 (ks:List (DK×D)) (k j:DK) (v:D):dGet (dPut ks k v) j=if j=k then some v else dGet ks j:=by
 unfold dPut
 rw [Qd3]
 cases h:dGet ks k with
 | none=>rw [if_neg (by simp)]; exact Qd4 k j v ks h
 | some x =>
  rw [if_pos (show(some x).isSome=true from rfl),Qd2]
  by_cases e:j=k
  ·subst e; rw [h]; simp
  ·simp [e]
theorem Qg4 (ks:List (DK×D)) (k:DK) (v:D):(dPut ks k v).length≤ks.length+1:=by
 unfold dPut; split <;> simp
theorem Qd5 (x:Int) (v:D):∀ {ks:List (DK×D)} {is:List Int},JS ks=some is->JS (ks++[(.inl x,v)])=some (is++[x])
 | [],_,h=>by cases h; rfl
 | (.inl i,_)::r,is,h=>by
  have h:(JS r).map (i :: ·)=some is:=h
  obtain⟨js,h1,h2⟩:=Option.map_eq_some_iff.mp h
  show(JS (r++_)).map (i :: ·)=_
  rw [Qd5 x v h1,← h2]; rfl
theorem Qd6 (k:Int):∀ {ks:List (DK×D)} {is:List Int},JS ks=some is->((ks.any fun p=>decide (p.1=.inl k))=true↔k∈is)
 | [],_,h=>by cases h; simp
 | (.inl i,v)::r,is,h=>by
  have h:(JS r).map (i :: ·)=some is:=h
  cases hr:JS r with
  | none=>rw [hr] at h; cases h
  | some js =>
   rw [hr] at h
   cases h
   have ih:=Qd6 k hr
   rw [List.any_cons,Bool.or_eq_true,ih,List.mem_cons,decide_eq_true_eq]
   refine⟨fun z=>?_,fun z=>?_⟩
   ·rcases z with z | z
    ·exact .inl (Sum.inl.inj z).symm
    ·exact .inr z
   ·rcases z with z | z
    ·exact .inl (by rw [z])
    ·exact .inr z
 | (.inr s,v)::r,is,h=>by cases h
theorem Cells.snoc {ks:List (DK×D)} {M:List (Int×Int)} {x v:Int} (h:Cells ks M) (hx:∀ q∈M,q.1<x):Cells (dPut ks (.inl x) (.int v)) (M++[(x,v)]):=by
 obtain⟨⟨is,h1,h2⟩,h3⟩:=h
 have hn:x∉is:=fun z=>by
  obtain⟨q,hq,e⟩:=List.mem_map.mp (h2.mem_iff.mp z)
  have:=hx q hq
  omega
 refine⟨?_,fun q hq=>?_⟩
 ·unfold dPut
  rw [if_neg (fun z=>hn ((Qd6 x h1).mp z)),Qd5 x _ h1]
  exact⟨_,rfl,by rw [List.map_append]; exact h2.append_right [x]⟩
 ·rw [Qg3]
  rcases List.mem_append.mp hq with z | z
  ·rw [if_neg (fun e=>by have:=hx q z; have:=Sum.inl.inj e; omega)]; exact h3 q z
  ·rw [List.mem_singleton.mp z,if_pos rfl]
theorem QiP {d:Nat} {ks:List (DK×D)} {k:Int} {y:D} {σ:S3} {g:G} {o i v:ME} (hv:v σ g=.ok y g) (ho:o σ g=.ok (.ref d) g) (hi:i σ g=.ok (.int k) g) (h:g[d]?=some (.dct ks)) (hz:ks.length≤100000) :
  QfP o i v σ g=.nx σ (g.set d (.dct (dPut ks (.inl k) y))):=by
 unfold QfP
 rw [hv]; dsimp only
 rw [ho]; dsimp only
 rw [hi]; dsimp only
 rw [h]; dsimp only
 rw [if_pos (YG hz)]
theorem QiQ {n:Nat} (h:n≤100000):inR (n:Int):=by
 have:(n:Int)≤100000:=Int.ofNat_le.mpr h
 constructor <;> omega
theorem Qf2 {rw' ah d:Nat} {row:List Int} {n:Nat} {x0 x1 x2 x3 x4 x5 x9:Option D} {g:G} {A:List D} (hr:g[rw']?=some (.lst (row.map .int))) (ha:g[ah]?=some (.lst A)) (hn:A.length=n) (hd:g[d]?=some (.dct [])) (h1:rw'≠d) (h2:ah≠d) (hz:row.length≤50000) :
  ∃ y9 ks g',forL (Zg 0 row.length) (gSet 9) Z6 (row.length+1) 0 [x0,x1,x2,x3,x4,x5,some (.ref ah),some (.ref rw'),some (.ref d),x9] g=.nx [x0,x1,x2,x3,x4,x5,some (.ref ah),some (.ref rw'),some (.ref d),y9] g'∧Keeps [d] g g'∧g'[d]?=some (.dct ks)∧Cells ks (Q6 row (-(n:Int))):=by
 obtain⟨σ',g',e,y9,ks,i1,i2,i3,i4,_⟩:=QaT (t:=gSet 9) (body:=Z6) (lo:=0) (n:=row.length) (σ:=[x0,x1,x2,x3,x4,x5,some (.ref ah),some (.ref rw'),some (.ref d),x9]) (g:=g)
  (fun i σ g1=>∃ y9 ks,σ=[x0,x1,x2,x3,x4,x5,some (.ref ah),some (.ref rw'),some (.ref d),y9]∧Keeps [d] g g1∧g1[d]?=some (.dct ks)∧Cells ks (Q6 (row.take i) (-(n:Int)))∧ks.length≤i) ⟨x9,[],rfl,.refl,hd,⟨⟨[],rfl,.refl _⟩,fun q h=>by cases h⟩,Nat.le_refl _⟩ (fun i σ g1 hi hQ=>by
   obtain⟨y9,ks,i1,i2,i3,i4,i5⟩:=hQ
   subst i1
   have hr1:=i2.at' _ _ (fun z=>h1 (List.mem_singleton.mp z)) hr
   have ha1:=i2.at' _ _ (fun z=>h2 (List.mem_singleton.mp z)) ha
   have htk:row.take (i+1)=row.take i++[row[i]]:=List.take_succ_eq_append_getElem hi
   have hix:mOp2 pIx (mVar 7) (mVar 9) [x0,x1,x2,x3,x4,x5,some (.ref ah),some (.ref rw'),some (.ref d),some (.int i)] g1=.ok (.int row[i]) g1:=Qj (x:=.ref rw') (y:=.int i) (g1:=g1) (g2:=g1) rfl rfl (QhD hr1 (by rw [List.getElem?_map,List.getElem?_eq_getElem hi]; rfl))
   have t1:Qp (mOp2 pNe (mOp2 pIx (mVar 7) (mVar 9)) (mLit (.int 0))) [x0,x1,x2,x3,x4,x5,some (.ref ah),some (.ref rw'),some (.ref d),some (.int i)] g1=.ok (!(row[i] == 0)) g1:=QC (Qj (x:=.int row[i]) (y:=.int 0) (g1:=g1) (g2:=g1) hix rfl rfl)
   have hkey:mOp2 pSub (mVar 9) (mOp1 pLen (mVar 6)) [x0,x1,x2,x3,x4,x5,some (.ref ah),some (.ref rw'),some (.ref d),some (.int i)] g1=.ok (.int (-(n:Int)+i)) g1:=Qj (x:=.int i) (y:=.int n) (g1:=g1) (g2:=g1) rfl (QL (x:=.ref ah) (g1:=g1) rfl (by unfold pLen; dsimp only; rw [ha1]; dsimp only; rw [hn])) (by
    show Res.ok (D.int ((i:Int) - n)) g1=_
    rw [show(i:Int) - n = -(n:Int)+i by omega])
   have hlen:(row.take i).length=i:=by rw [List.length_take]; omega
   have hsn:=Jq row[i] (row.take i) (-(n:Int))
   rw [hlen,← htk] at hsn
   by_cases hs:row[i]=0
   ·rw [beq_iff_eq.mpr hs] at t1
    refine⟨_,[x0,x1,x2,x3,x4,x5,some (.ref ah),some (.ref rw'),some (.ref d),some (.int i)],g1,rfl,?_,_,ks,rfl,i2,i3,by rw [hsn,if_neg (fun z=>z hs),List.append_nil]; exact i4,by omega⟩
    show Z6 [x0,x1,x2,x3,x4,x5,some (.ref ah),some (.ref rw'),some (.ref d),some (.int (0+i))] g1=_
    rw [Int.zero_add]
    exact iff' g1 t1 rfl
   ·rw [beq_eq_false_iff_ne.mpr hs] at t1
    refine⟨_,[x0,x1,x2,x3,x4,x5,some (.ref ah),some (.ref rw'),some (.ref d),some (.int i)],g1.set d (.dct (dPut ks (.inl (-(n:Int)+i)) (.int row[i]))),rfl,?_,_,_,rfl,i2.trans (.set _ _),Zs i3,?_,Nat.le_trans (Qg4 _ _ _) (by omega)⟩
    ·show Z6 [x0,x1,x2,x3,x4,x5,some (.ref ah),some (.ref rw'),some (.ref d),some (.int (0+i))] g1=_
     rw [Int.zero_add]
     exact ift g1 t1 (QiP hix rfl hkey i3 (by omega))
    ·rw [hsn,if_pos hs]
     refine i4.snoc fun q hq=>?_
     have:=(QaX _ _ q hq).2
     rw [hlen] at this
     exact this)
 rw [List.take_length] at i4
 exact⟨y9,ks,g',by rw [e,i1],i2,i3,i4⟩
end L3
end
section
namespace L3
open PySem
theorem Yh {a b:Nat} {xs ys:List D} {g:G} (h1:g[a]?=some (.lst xs)) (h2:g[b]?=some (.lst ys)) (hz:xs.length+ys.length≤100000):pAdd (.ref a) (.ref b) g=.ok (.ref g.length) (g++[.lst (xs++ys)]):=by
 unfold pAdd
 dsimp only
 rw [h1,h2]
 dsimp only
 rw [if_pos (Nat.le_of_lt (YG hz))]
noncomputable def TkF (d:D):Bool:=true
theorem Qdq (ts:List Tk):(ts.map tkD).all TkF=true:=List.all_eq_true.mpr fun _ _=>rfl
theorem Qce {st:Int} {f:Str} {L R:D} {g:G} {b b':Bool} {tl tr:List Tk} (h0:0≤st) (hf:lrS f) (hL:Qr g L=some (b,tl.map tkD)) (hR:Qr g R=some (b',tr.map tkD)) (ol:∀ t∈tl,TkOk t) (or':∀ t∈tr,TkOk t) (zl:tl.length≤60) (zr:tr.length≤60) :
  ∃ g',Q7 [.tup [.int st,.str f,L,R]] g=.ok .non g'∧Keeps [] g g':=by
 obtain⟨g',k,h⟩:=Jg TkF h0 hf hL hR (by rw [List.length_map]; omega) (by rw [List.length_map]; omega) (fun d hd=>by
  obtain⟨t,ht,rfl⟩:=List.mem_map.mp hd
  exact Qat (ol t ht) g) (fun d hd=>by
  obtain⟨t,ht,rfl⟩:=List.mem_map.mp hd
  exact Qat (or' t ht) g)
 rcases h with⟨_,_,e⟩ | ⟨z,_⟩
 ·exact⟨g',e,k⟩
 ·exact absurd ⟨Qdq tl,Qdq tr⟩ z
theorem Qf3 {q l:Nat} {row:List Int} {n:Nat} {A:List D} {g:G} (hq:g[q]?=some (.lst (row.map .int))) (hl:g[l]?=some (.lst A)) (hn:A.length=n) (hz:row.length≤50000) {x0 x1 x4:Option D} :
  Ya (JR (mVar 3)) 2 [2] (JJ [(gSet 0),(gSet 1)]) (Qp (mOp2 pNe (mVar 1) (mLit (.int 0)))) (mOpA pTup (Qa (mOp2 pSub (mVar 0) (mOp1 pLen (mVar 2))) (Qa (mVar 1) mNil))) [x0,x1,some (.ref l),some (.ref q),x4] g=.ok (.ref g.length) (g++[.lst ((Q6 row (-(n:Int))).map stD)]):=by
 have hs:Qr g (.ref q)=some (true,row.map .int):=QF hq
 have hlen:(row.map D.int).length=row.length:=List.length_map _
 have hit:JR (mVar 3) [x0,x1,some (.ref l),some (.ref q),x4] g=.ok ⟨fun g i=>(match Qr g (.ref q) with
  | some (_,es)=>(match es[i]? with
   | some x=>some (some (.tup [.int i,x]))
   | none=>some none)
  | none=>none),(row.map D.int).length⟩ g:=by
  unfold JR
  rw [show mVar 3 [x0,x1,some (.ref l),some (.ref q),x4] g=.ok (.ref q) g from rfl,Res.bind_ok]
  unfold Qdk
  rw [hs]
  try rfl
 refine YV (σ0:=[none,none,some (.ref l)]) hit (by show(row.map D.int).length≤SZ; exact Nat.le_of_lt (YG (by omega))) rfl ?_
 obtain⟨xs,σ',g3,c1,c2,c3,_⟩:=ZQ (src:=⟨fun g i=>(match Qr g (.ref q) with
  | some (_,es)=>(match es[i]? with
   | some x=>some (some (.tup [.int i,x]))
   | none=>some none)
  | none=>none),(row.map D.int).length⟩) (t:=JJ [gSet 0,gSet 1]) (c:=Qp (mOp2 pNe (mVar 1) (mLit (.int 0)))) (e:=mOpA pTup (Qa (mOp2 pSub (mVar 0) (mOp1 pLen (mVar 2))) (Qa (mVar 1) mNil))) (n:=row.length)
  (fun i σ' g4 acc=>acc=(Q6 (row.take i) (-(n:Int))).map stD∧g4=g∧∃ u v,σ'=[u,v,some (.ref l)]) (fun i σ' g4 acc hi hQ=>by
   obtain⟨q1,q2,u,v,q3⟩:=hQ
   subst q2 q3
   have htk:row.take (i+1)=row.take i++[row[i]]:=List.take_succ_eq_append_getElem hi
   have hlt:(row.take i).length=i:=by rw [List.length_take]; omega
   have hsn:=Jq row[i] (row.take i) (-(n:Int))
   rw [hlt,← htk] at hsn
   have t1:Qp (mOp2 pNe (mVar 1) (mLit (.int 0))) [some (.int i),some (.int row[i]),some (.ref l)] g4=.ok (!(row[i] == 0)) g4:=rfl
   refine⟨.tup [.int i,.int row[i]],[some (.int i),some (.int row[i]),some (.ref l)],g4,?_,rfl,?_⟩
   ·dsimp only
    rw [hs]
    dsimp only
    rw [List.getElem?_map,List.getElem?_eq_getElem hi]
    rfl
   ·by_cases hz0:row[i]=0
    ·rw [beq_iff_eq.mpr hz0] at t1
     refine .inr ⟨t1,?_,rfl,_,_,rfl⟩
     rw [hsn,if_neg (fun z=>z hz0),List.append_nil]; exact q1
    ·rw [beq_eq_false_iff_ne.mpr hz0] at t1
     refine .inl ⟨stD (-(n:Int)+i,row[i]),g4,t1,?_,?_,rfl,_,_,rfl⟩
     ·refine Zp (Qd (g1:=g4) (Qj (x:=.int i) (y:=.int n) (g1:=g4) (g2:=g4) rfl (QL (x:=.ref l) (g1:=g4) rfl (by unfold pLen; dsimp only; rw [hl]; dsimp only; rw [hn])) ?_) (Qd (g1:=g4) rfl rfl)) rfl
      show Res.ok (D.int ((i:Int) - n)) g4=_
      rw [show(i:Int) - n = -(n:Int)+i by omega]
     ·rw [hsn,if_pos hz0,List.map_append,q1]; rfl) (fun σ g4 acc hQ=>by
   dsimp only
   rw [hQ.2.1,hs]
   dsimp only
   rw [List.getElem?_eq_none (by rw [hlen]; exact Nat.le_refl _)]) ((row.map D.int).length+1) 0 [none,none,some (.ref l)] g [] (by omega) (by omega) ⟨rfl,rfl,none,none,rfl⟩
 rw [List.take_length] at c2
 subst c2 c3
 exact c1
theorem QaZ {st:Int} {f:Str} {L R:D} {g:G} {b b':Bool} {tl tr:List Tk} {c:Nat} (h0:0≤st) (hf:lrS f) (hL:Qr g L=some (b,tl.map tkD)) (hR:Qr g R=some (b',tr.map tkD)) (ol:∀ t∈tl,TkOk t) (or':∀ t∈tr,TkOk t) (zl:tl.length≤40) (zr:tr.length≤40) (hc:c≤20) :
  ∃ g',Zu [.tup [.int st,.str f,L,R],.int c] g=.ok (Jr st f c tl tr) g'∧Keeps [] g g':=by
 obtain⟨g1,e1,k1⟩:=Qce h0 hf hL hR ol or' (by omega) (by omega)
 obtain⟨r1,g2,e2,hr1,p2,k2⟩:=QaW (Qf hL k1) ol hc (by omega)
 obtain⟨r2,g3,e3,hr2,p3,k3⟩:=QaW (Qf hR (k1.trans k2)) or' hc (by omega)
 have p2':=k3.at' _ _ (by simp) p2
 have l1:=Zj hc ol
 have l2:=Zj hc or'
 have hb1:500*tl.length≤20000:=by omega
 have hb2:500*tr.length≤20000:=by omega
 have k4:Keeps [] g3 (g3++[.lst ((Qv c tl).map .int++(Qv c tr).map .int)]):=.push _
 have p4:(g3++[GO.lst ((Qv c tl).map .int++(Qv c tr).map .int)])[g3.length]?=some (.lst ((Qv c tl).map .int++(Qv c tr).map .int)):=Ql _
 have e4:=Yh p2' p3 (by rw [List.length_map,List.length_map]; omega)
 have p2'':=k4.at' _ _ (by simp) p2'
 generalize g3++[GO.lst ((Qv c tl).map .int++(Qv c tr).map .int)]=g4 at k4 p4 e4 p2''
 rw [← List.map_append] at p4
 have e5:=Qf3 (n:=(Qv c tl).length) (x0:=some (.tup [.int st,.str f,L,R])) (x1:=some (.int c)) (x4:=none) p4 p2'' (List.length_map _) (by rw [List.length_append]; omega)
 have k5:Keeps [] g4 (g4++[.lst ((Q6 (Qv c tl++Qv c tr) (-((Qv c tl).length:Int))).map stD)]):=.push _
 have p5:(g4++[GO.lst ((Q6 (Qv c tl++Qv c tr) (-((Qv c tl).length:Int))).map stD)])[g4.length]?=some (.lst ((Q6 (Qv c tl++Qv c tr) (-((Qv c tl).length:Int))).map stD)):=Ql _
 generalize hg5:g4++[GO.lst ((Q6 (Qv c tl++Qv c tr) (-((Qv c tl).length:Int))).map stD)]=g5 at e5 k5 p5
 refine⟨g5,Q1 rfl ?_,k1.trans (k2.trans (k3.trans (k4.trans k5)))⟩
 show Yq [some (.tup [.int st,.str f,L,R]),some (.int c),none,none,none] g=_
 unfold Yq
 have t2:Qp (Qs Qn (Qa (mVar 1) mNil)) [some (.tup [.int st,.str f,L,R]),some (.int c),none,none,none] g1=.ok true g1:=QC (by rw [Qm (ds:=[.int c]) (g':=g1) rfl,JF,decide_eq_true (by omega)])
 refine Qh _ g1 (Z7 (by rw [Qm (ds:=[.tup [.int st,.str f,L,R]]) (g':=g) rfl]; exact e1)) (Qh _ g1 (iff' g1 (YF t2) rfl) ?_)
 refine Qh [some (.tup [.int st,.str f,L,R]),some (.int c),some (.ref r1),none,none] g2 (QE (by rw [Qm (ds:=[L,.int c]) (g':=g1) rfl]; exact e2)) ?_
 refine Qh [some (.tup [.int st,.str f,L,R]),some (.int c),some (.ref r1),some (.ref g3.length),none] g4 (QE (Qj (x:=.ref r1) (y:=.ref r2) (g1:=g2) (g2:=g3) rfl (by rw [Qm (ds:=[R,.int c]) (g':=g2) rfl]; exact e3) e4)) ?_
 refine Qh _ g5 (QE e5) (Q5 ?_)
 have t3:Qp (mOp2 pEq (mOp2 pIx (mVar 0) (mLit (.int 1))) (mLit (.str (Str.ofString "r")))) [some (.tup [.int st,.str f,L,R]),some (.int c),some (.ref r1),some (.ref g3.length),some (.ref g4.length)] g5=.ok (f == Str.ofString "r") g5:=rfl
 have e6:mIfE (Qp (mOp2 pEq (mOp2 pIx (mVar 0) (mLit (.int 1))) (mLit (.str (Str.ofString "r"))))) (mLit (.int 0)) (mOp1 pNeg (mLit (.int 1))) [some (.tup [.int st,.str f,L,R]),some (.int c),some (.ref r1),some (.ref g3.length),some (.ref g4.length)] g5=.ok (.int (if (f == Str.ofString "r")=true then 0 else -1)) g5:=by
  unfold mIfE
  rw [t3,Res.bind_ok]
  cases (f == Str.ofString "r") <;> rfl
 exact Zp (Qd (g1:=g5) rfl (Qd e6 (Qd (QL (x:=.ref g4.length) (g1:=g5) rfl (by unfold ZH; dsimp only; rw [p5])) rfl))) rfl
theorem Qg5 {f:Str} (h:lrS f) : -(if (f == Str.ofString "l")=true then (1:Int) else 0)=(if (f == Str.ofString "r")=true then 0 else -1):=by
 have h1:(Str.ofString "l" == Str.ofString "r")=false:=by decide +kernel
 have h2:(Str.ofString "r" == Str.ofString "l")=false:=by decide +kernel
 rcases h with rfl | rfl
 ·rw [Zq,h1]; rfl
 ·rw [Zq,h2]; rfl
theorem Qd7 {st:Int} {f:Str} {L R:D} {g:G} {b b':Bool} {tl tr:List Tk} {c:Nat} (hf:lrS f) (hL:Qr g L=some (b,tl.map tkD)) (hR:Qr g R=some (b',tr.map tkD)) (ol:∀ t∈tl,TkOk t) (or':∀ t∈tr,TkOk t) (zl:tl.length≤40) (zr:tr.length≤40) (hc:c≤20) :
  ∃ y g1 g',JB [.tup [.int st,.str f,L,R],.int c] g=.ok y g1∧JC [y] g1=.ok (Jr st f c tl tr) g'∧Keeps [] g g':=by
 obtain⟨r1,g2,e2,hr1,p2,k2⟩:=QcU hL ol hc (by omega)
 obtain⟨r2,g3,e3,hr2,p3,k3⟩:=QcU (Qf hR k2) or' hc (by omega)
 have p2':=k3.at' _ _ (by simp) p2
 have l1:=Zj hc ol
 have l2:=Zj hc or'
 have hb1:500*tl.length≤20000:=by omega
 have hb2:500*tr.length≤20000:=by omega
 have e4:=Yh p2' p3 (by rw [List.length_map,List.length_map]; omega)
 have k4:Keeps [] g3 (g3++[.lst ((Qv c tl).map .int++(Qv c tr).map .int)]):=.push _
 have p4:(g3++[GO.lst ((Qv c tl).map .int++(Qv c tr).map .int)])[g3.length]?=some (.lst ((Qv c tl).map .int++(Qv c tr).map .int)):=Ql _
 have p2'':=k4.at' _ _ (by simp) p2'
 have hl3:=Zd p2'
 generalize g3++[GO.lst ((Qv c tl).map .int++(Qv c tr).map .int)]=g4 at k4 p4 e4 p2''
 rw [← List.map_append] at p4
 have k5:Keeps [] g4 (g4++[.dct []]):=.push _
 have p5:(g4++[GO.dct []])[g4.length]?=some (.dct []):=Ql _
 have e5:QiE [some (.tup [.int st,.str f,L,R]),some (.int c),some (.int st),some (.str f),some L,some R,some (.ref r1),some (.ref g3.length),none,none] g4=.ok (.ref g4.length) (g4++[.dct []]):=rfl
 have hl4:=Zd p4
 have hl5:=Zd p2''
 have p4':=k5.at' _ _ (by simp) p4
 have p2s:=k5.at' _ _ (by simp) p2''
 generalize g4++[GO.dct []]=g5 at k5 p5 e5 p4' p2s
 obtain⟨y9,ks,g6,e6,k6,hd6,hC⟩:=Qf2 (row:=Qv c tl++Qv c tr) (n:=(Qv c tl).length) (x0:=some (.tup [.int st,.str f,L,R])) (x1:=some (.int c)) (x2:=some (.int st)) (x3:=some (.str f)) (x4:=some L) (x5:=some R) (x9:=none) p4' p2s (List.length_map _) p5 (by omega) (by omega) (by rw [List.length_append]; omega)
 have hk6:Keeps [] g g6:=⟨Nat.le_trans k2.len (Nat.le_trans k3.len (Nat.le_trans k4.len (Nat.le_trans k5.len k6.len))),fun i o _ h=>k6.at' _ _ (fun z=>by
  have:=List.mem_singleton.mp z
  have:=Zd (k4.at' _ _ (by simp) (k3.at' _ _ (by simp) (k2.at' _ _ (by simp) h)))
  omega) (k5.at' _ _ (by simp) (k4.at' _ _ (by simp) (k3.at' _ _ (by simp) (k2.at' _ _ (by simp) h))))⟩
 have hM:(Q6 (Qv c tl++Qv c tr) (-((Qv c tl).length:Int))).length≤60000:=Nat.le_trans (JX _ _) (by rw [List.length_append]; omega)
 obtain⟨g7,e7,k7⟩:=Qg2 (st:=st) (here:=if (f == Str.ofString "r")=true then 0 else -1) (QaY _ _) hM hd6 hC
 refine⟨.tup [.int st,.int (if (f == Str.ofString "r")=true then 0 else -1),.ref g4.length],g6,g7,Q1 rfl ?_,e7,hk6.trans k7⟩
 show Qb4 [some (.tup [.int st,.str f,L,R]),some (.int c),none,none,none,none,none,none,none,none] g=_
 unfold Qb4
 refine Qh [some (.tup [.int st,.str f,L,R]),some (.int c),some (.int st),some (.str f),some L,some R,none,none,none,none] g rfl ?_
 refine Qh [some (.tup [.int st,.str f,L,R]),some (.int c),some (.int st),some (.str f),some L,some R,some (.ref r1),none,none,none] g2 (QE (by rw [Qm (ds:=[L,.int c]) (g':=g) rfl]; exact e2)) ?_
 refine Qh [some (.tup [.int st,.str f,L,R]),some (.int c),some (.int st),some (.str f),some L,some R,some (.ref r1),some (.ref g3.length),none,none] g4 (QE (Qj (x:=.ref r1) (y:=.ref r2) (g1:=g2) (g2:=g3) rfl (by rw [Qm (ds:=[R,.int c]) (g':=g2) rfl]; exact e3) e4)) ?_
 refine Qh _ g5 (QE e5) (Qh _ g6 ((QaU (JE (n:=(Qv c tl++Qv c tr).length) (QL (x:=.ref g3.length) (g1:=g5) rfl (by unfold pLen; dsimp only; rw [p4']; dsimp only; rw [List.length_map])) (QiQ (by rw [List.length_append]; omega)))).trans e6) (Q5 ?_))
 rw [← Qg5 hf]
 exact Zp (Qd (g1:=g6) rfl (Qd (g1:=g6) (QL (x:=.int (if (f == Str.ofString "l")=true then 1 else 0)) (g1:=g6) (QL (x:=.bl (f == Str.ofString "l")) (g1:=g6) rfl rfl) rfl) (Qd (g1:=g6) rfl rfl))) rfl
end L3
end
section
namespace L3
open PySem
noncomputable def QJ (st:Int) (f:Str) (L R:List Tk):D:=.tup [.int st,.str f,.tup ((L.map Zf).map tkD),.tup ((R.map Zf).map tkD)]
theorem Qa0 (t:Tk) (g:G):ZN [tkD t] g=.ok (tkD (Zf t)) g:=by
 refine Q1 rfl (Q5 ?_)
 show mIfE _ (mVar 0) _ [some (tkD t)] g=_
 unfold mIfE
 cases t with
 | one s =>
  rw [show Qp (mOp2 pEq (mOp2 pIx (mVar 0) (mLit (.int 0))) (mLit (.str (Str.ofString "one")))) [some (tkD (.one s))] g=.ok (Str.ofString "one" == Str.ofString "one") g from rfl,Zq,Res.bind_ok]
  rfl
 | many w k =>
  rw [show Qp (mOp2 pEq (mOp2 pIx (mVar 0) (mLit (.int 0))) (mLit (.str (Str.ofString "one")))) [some (tkD (.many w k))] g=.ok (Str.ofString "many" == Str.ofString "one") g from rfl,Qca,Res.bind_ok]
  rfl
noncomputable def Qf4 (d:D):D:=match d with
 | .tup [.str x,v,.int k]=>.tup [.str x,v,.int (k+1)]
 | d=>d
theorem QcV (t:Tk):Qf4 (tkD t)=tkD (Zf t):=by cases t <;> rfl
theorem YH {x:D} {b:Bool} {ts:List Tk} {g:G} (hx:Qr g x=some (b,ts.map tkD)) (hz:ts.length≤1000):∃ g',ZE [x] g=.ok (.tup ((ts.map Zf).map tkD)) g'∧Keeps [] g g':=by
 obtain⟨src,s1,s2,s3⟩:=Qbw hx
 obtain⟨g1,c1,k1⟩:=Qcc (ds:=ts.map tkD) (e:=Qs ZN (Qa (mVar 0) mNil)) (g:=g) (F:=Qf4) (src:=src) (by rw [List.length_map]; omega) (fun d hd g1 k=>by
  obtain⟨t,_,rfl⟩:=List.mem_map.mp hd
  exact⟨g1,by rw [Qm (ds:=[tkD t]) (g':=g1) rfl,Qa0,QcV],.refl⟩) s2 (fun g1 i k=>s3 g1 i (Qf hx k))
 have c2:=YV (it:=QW (mVar 0)) (n:=1) (cap:=[]) (σ:=[some x]) (t:=gSet 0) (c:=Yj) (σ0:=[none]) (g:=g) (by
  unfold QW
  rw [show mVar 0 [some x] g=.ok x g from rfl,Res.bind_ok]
  exact s1) (by rw [s2,List.length_map]; exact Nat.le_of_lt (YG (by omega))) rfl c1
 have hm:(ts.map tkD).map Qf4=(ts.map Zf).map tkD:=by
  rw [List.map_map,List.map_map]
  exact List.map_congr_left fun t _=>QcV t
 rw [hm] at c2
 refine⟨_,Q1 rfl (Q5 (QL c2 ?_)),k1.trans (.push (.lst ((ts.map Zf).map tkD)))⟩
 unfold ZH
 dsimp only
 rw [Ql]
theorem Qa1 {st:Int} {f:Str} {L R:D} {g:G} {b b':Bool} {tl tr:List Tk} (h0:0≤st) (hf:lrS f) (hL:Qr g L=some (b,tl.map tkD)) (hR:Qr g R=some (b',tr.map tkD)) (ol:∀ t∈tl,TkOk t) (or':∀ t∈tr,TkOk t) (zl:tl.length≤40) (zr:tr.length≤40) :
  ∃ g',Yf [.tup [.int st,.str f,L,R]] g=.ok (QJ st f tl tr) g'∧Keeps [] g g':=by
 obtain⟨g1,e1,k1⟩:=Qce h0 hf hL hR ol or' (by omega) (by omega)
 obtain⟨g2,e2,k2⟩:=YH (Qf hL k1) (by omega)
 obtain⟨g3,e3,k3⟩:=YH (Qf hR (k1.trans k2)) (by omega)
 refine⟨g3,Q1 rfl ?_,k1.trans (k2.trans k3)⟩
 show Qb0 [some (.tup [.int st,.str f,L,R])] g=_
 unfold Qb0
 refine Qh _ g1 (Z7 (by rw [Qm (ds:=[.tup [.int st,.str f,L,R]]) (g':=g) rfl]; exact e1)) (Q5 ?_)
 exact Zp (Qd (g1:=g1) rfl (Qd (g1:=g1) rfl (Qd (g1:=g2) (by rw [Qm (ds:=[L]) (g':=g1) rfl]; exact e2) (Qd (g1:=g3) (by rw [Qm (ds:=[R]) (g':=g2) rfl]; exact e3) rfl)))) rfl
theorem Qd8 {x:D} {b:Bool} {ts:List Tk} {g:G} (hx:Qr g x=some (b,ts.map tkD)) (hz:ts.length≤1000):∃ g',Qaq [x] g=.ok (.tup ((ts.map Zf).map tkD)) g'∧Keeps [] g g':=by
 have k0:Keeps [] g (g++[.lst []]):=.push _
 have p0:(g++[GO.lst []])[g.length]?=some (.lst []):=Ql _
 obtain⟨src,s1,s2,s3⟩:=Qbw (Qf hx k0)
 have hlen:src.top=ts.length:=by rw [s2,List.length_map]
 have hnot:∀ g1,Keeps [g.length] (g++[.lst []]) g1->Qr g1 x=some (b,ts.map tkD):=fun g1 k=>by
  cases x with
  | ref n =>
   unfold Qr at hx ⊢
   dsimp only at hx ⊢
   cases hg:g[n]? with
   | none=>rw [hg] at hx; cases hx
   | some o =>
    rw [hg] at hx
    have:=Zd hg
    rw [k.at' _ _ (fun z=>by have:=List.mem_singleton.mp z; omega) (k0.at' _ _ (by simp) hg)]
    exact hx
  | _=>exact hx
 obtain⟨σ',g2,e2,⟨y2,i1⟩,i2,i3⟩:=Qb9 (src:=src) (t:=gSet 2) (body:=Jo) (n:=ts.length) (σ:=[some x,some (.ref g.length),none]) (g:=g++[.lst []]) hlen
  (fun i σ g2=>(∃ y2,σ=[some x,some (.ref g.length),y2])∧Keeps [g.length] (g++[.lst []]) g2∧g2[g.length]?=some (.lst (((ts.take i).map Zf).map tkD))) ⟨⟨none,rfl⟩,.refl,p0⟩ (fun i σ g2 hi hQ=>by
   obtain⟨⟨y2,i1⟩,i2,i3⟩:=hQ
   subst i1
   have htk:ts.take (i+1)=ts.take i++[ts[i]]:=List.take_succ_eq_append_getElem hi
   have hl:(((ts.take i).map Zf).map tkD).length≤100000:=by rw [List.length_map,List.length_map,List.length_take]; omega
   refine⟨tkD ts[i],[some x,some (.ref g.length),some (tkD ts[i])],[some x,some (.ref g.length),some (tkD (Zf ts[i]))],g2.set g.length (.lst (((ts.take i).map Zf).map tkD++[tkD (Zf ts[i])])),by rw [s3 g2 i (hnot g2 i2),List.getElem?_map,List.getElem?_eq_getElem hi]; rfl,rfl,?_,⟨_,rfl⟩,i2.trans (.set _ _),?_⟩
   ·unfold Jo
    refine Qh [some x,some (.ref g.length),some (tkD (Zf ts[i]))] g2 ?_ (ZX rfl i3 rfl hl)
    have t1:∀ v:Tk,Qp (mOp2 pEq (mOp2 pIx (mVar 2) (mLit (.int 0))) (mLit (.str (Str.ofString "many")))) [some x,some (.ref g.length),some (tkD v)] g2=.ok (match v with | .one _=>Str.ofString "one" == Str.ofString "many" | .many _ _=>Str.ofString "many" == Str.ofString "many") g2:=fun v=>by cases v <;> rfl
    have t2:=t1 ts[i]
    cases ht:ts[i] with
    | one s=>rw [ht] at t2; dsimp only at t2; rw [Qg1] at t2; exact iff' g2 t2 rfl
    | many w k=>rw [ht] at t2; dsimp only at t2; rw [Zq] at t2; exact ift g2 t2 rfl
   ·rw [Zs i3,htk,List.map_append,List.map_append]; rfl) (fun σ g2 hQ=>by rw [s3 g2 _ (hnot g2 hQ.2.1),List.getElem?_eq_none (by rw [List.length_map]; exact Nat.le_refl _)])
 subst i1
 rw [List.take_length] at i3
 refine⟨g2,Q1 rfl ?_,⟨Nat.le_trans k0.len i2.len,fun j o _ h=>i2.at' _ _ (fun z=>by have:=Zd h; have:=List.mem_singleton.mp z; omega) (k0.at' _ _ (by simp) h)⟩⟩
 show Qb7 [some x,none,none] g=_
 unfold Qb7
 refine Qh [some x,some (.ref g.length),none] (g++[.lst []]) (QE rfl) (Qh _ g2 ((QaU ?_).trans e2) (Q5 (QL (x:=.ref g.length) (g1:=g2) rfl ?_)))
 ·unfold QW
  rw [show mVar 0 [some x,some (.ref g.length),none] (g++[.lst []])=.ok x (g++[.lst []]) from rfl,Res.bind_ok]
  exact s1
 ·unfold ZH
  dsimp only
  rw [i3]
theorem JY {st:Int} {f:Str} {L R:D} {g:G} {b b':Bool} {tl tr:List Tk} (hL:Qr g L=some (b,tl.map tkD)) (hR:Qr g R=some (b',tr.map tkD)) (zl:tl.length≤40) (zr:tr.length≤40) :
  ∃ g',Yr [.tup [.int st,.str f,L,R]] g=.ok (QJ st f tl tr) g'∧Keeps [] g g':=by
 obtain⟨g2,e2,k2⟩:=Qd8 hL (by omega)
 obtain⟨g3,e3,k3⟩:=Qd8 (Qf hR k2) (by omega)
 refine⟨g3,Q1 rfl ?_,k2.trans k3⟩
 show JV [some (.tup [.int st,.str f,L,R]),none,none,none,none] g=_
 unfold JV
 refine Qh [some (.tup [.int st,.str f,L,R]),some (.int st),some (.str f),some L,some R] g rfl (Q5 ?_)
 exact Zp (Qd (g1:=g) rfl (Qd (g1:=g) rfl (Qd (g1:=g2) (by rw [Qm (ds:=[L]) (g':=g) rfl]; exact e2) (Qd (g1:=g3) (by rw [Qm (ds:=[R]) (g':=g2) rfl]; exact e3) rfl)))) rfl
end L3
end
section
namespace L3
open PySem
theorem Qf5 (ns:List Int) {k m tu:Int} {sg:Nat} {g:G} (hs:0<sg) (h0:0≤k) (h1:k≤20) :
  ∃ x:Int,0≤x∧mOp2 pMod (mOp2 pAdd (mOp2 QK (mVar 2) (mOp2 pAdd (mOp2 pMul (mOp2 pMul (mVar 0) (mVar 0)) (mVar 0)) (mLit (.int 1)))) (mOp2 pMul (mVar 0) (mOp2 pMod (mOp2 QK (mVar 3) (mLit (.int 72))) (mLit (.int 5))))) (mVar 1) [some (.int k),some (.int sg),some (.int tu),some (.int m)] g=.ok (.int x) g:=by
 have hs':(0:Int)<sg:=by omega
 have ck:cM k:=QgZ (by omega) (by omega)
 have k2:0≤k*k:=Int.mul_nonneg h0 h0
 have k2':k*k≤400:=by
  have:k*k≤20*20:=Int.mul_le_mul h1 h1 h0 (by decide)
  omega
 have k3:0≤k*k*k:=Int.mul_nonneg k2 h0
 have k3':k*k*k≤8000:=by
  have:k*k*k≤400*20:=Int.mul_le_mul k2' h1 h0 (by decide)
  omega
 refine⟨(tu / (k*k*k+1)+k*(m / 72 % 5)) % sg,Int.emod_nonneg _ (by omega),?_⟩
 have d1:mOp2 pAdd (mOp2 pMul (mOp2 pMul (mVar 0) (mVar 0)) (mVar 0)) (mLit (.int 1)) [some (.int k),some (.int sg),some (.int tu),some (.int m)] g=.ok (.int (k*k*k+1)) g:=Qj (x:=.int (k*k*k)) (y:=.int 1) (g1:=g) (g2:=g) (Qj (x:=.int (k*k)) (y:=.int k) (g1:=g) (g2:=g) (Qj rfl rfl (mulL ck)) rfl (mulR ck)) rfl rfl
 exact Qj (x:=.int (tu / (k*k*k+1)+k*(m / 72 % 5))) (y:=.int sg) (g1:=g) (g2:=g) (Qj (x:=.int (tu / (k*k*k+1))) (y:=.int (k*(m / 72 % 5))) (g1:=g) (g2:=g) (Qj (x:=.int tu) (y:=.int (k*k*k+1)) (g1:=g) (g2:=g) rfl d1 (divP (by omega) (by omega))) (Qj (x:=.int k) (y:=.int (m / 72 % 5)) (g1:=g) (g2:=g) rfl (Qj (x:=.int (m / 72)) (y:=.int 5) (g1:=g) (g2:=g) (Qj rfl rfl (divP (by decide) (by decide))) rfl (modP (by decide))) (mulL ck)) rfl) rfl (modP hs')
theorem Qf6 {n:Nat} {m tu:Int} {sg:Nat} {x0 x1 x4:Option D} {g:G} (hs:0<sg) (hn:n≤20) (h4:x4=some (.int n)) :
  ∃ w:List Int,w.length=n∧(∀ x∈w,0≤x)∧Ya (Zz (mVar 4)) 1 [2,5,3] (gSet 0) Yj (mOp2 pMod (mOp2 pAdd (mOp2 QK (mVar 2) (mOp2 pAdd (mOp2 pMul (mOp2 pMul (mVar 0) (mVar 0)) (mVar 0)) (mLit (.int 1)))) (mOp2 pMul (mVar 0) (mOp2 pMod (mOp2 QK (mVar 3) (mLit (.int 72))) (mLit (.int 5))))) (mVar 1)) [x0,x1,some (.int sg),some (.int m),x4,some (.int tu)] g=.ok (.ref g.length) (g++[.lst (w.map .int)]):=by
 subst h4
 obtain⟨xs,σ',g3,c1,w,c2,c3,c4,c5,_⟩:=ZQ (src:=Zg 0 n) (t:=gSet 0) (c:=Yj) (e:=mOp2 pMod (mOp2 pAdd (mOp2 QK (mVar 2) (mOp2 pAdd (mOp2 pMul (mOp2 pMul (mVar 0) (mVar 0)) (mVar 0)) (mLit (.int 1)))) (mOp2 pMul (mVar 0) (mOp2 pMod (mOp2 QK (mVar 3) (mLit (.int 72))) (mLit (.int 5))))) (mVar 1)) (n:=n)
  (fun i σ' g4 acc=>∃ w:List Int,acc=w.map .int∧w.length=i∧(∀ x∈w,0≤x)∧g4=g∧∃ u,σ'=[u,some (.int sg),some (.int tu),some (.int m)]) (fun i σ' g4 acc hi hQ=>by
   obtain⟨w,q1,q2,q3,q4,u,q5⟩:=hQ
   subst q4 q5
   obtain⟨x,hx,e⟩:=Qf5 [] (k:=0+(i:Int)) (m:=m) (tu:=tu) (g:=g4) hs (by omega) (by omega)
   refine⟨.int (0+i),[some (.int (0+i)),some (.int sg),some (.int tu),some (.int m)],g4,by simp [Zg,hi],rfl,.inl ⟨.int x,g4,rfl,e,w++[x],by rw [q1,List.map_append]; rfl,by rw [List.length_append,q2]; rfl,fun y hy=>?_,rfl,_,rfl⟩⟩
   rcases List.mem_append.mp hy with z | z
   ·exact q3 y z
   ·rw [List.mem_singleton.mp z]; exact hx) (fun σ g4 acc _=>by simp [Zg]) (n+1) 0 [none,some (.int sg),some (.int tu),some (.int m)] g [] (by omega) (by omega) ⟨[],rfl,rfl,(fun x h=>by cases h),rfl,none,rfl⟩
 subst c2 c5
 exact⟨w,c3,c4,YV (n:=1) (cap:=[2,5,3]) (σ0:=[none,some (.int sg),some (.int tu),some (.int m)]) (JE (n:=n) rfl (QfW (by omega))) (Nat.le_of_lt (QiL (show n≤1000 by omega))) rfl c1⟩
theorem Qg6 (ns:List Int) {a sg:Nat} {k:Int} {g:G} (hs:0<sg) (ga:g[a]?=some (.lst [.int k])) (hk:0≤k) (hk2:k<900000000) :
  ∃ w g',Qb3 [.fl (ns.map .int),.ref a,.int sg] g=.ok (.tup (w.map .int)) g'∧w≠[]∧(∀ x∈w,0≤x)∧w.length≤20∧Keeps [a] g g'∧g'[a]?=some (.lst [.int (k+2)]):=by
 obtain⟨q,q0,q1,e1⟩:=JW ns a k g ga hk (by omega)
 have k1:Keeps [a] g (g.set a (.lst [.int (k+1)])):=.set _ _
 have ga1:(g.set a (.lst [.int (k+1)]))[a]?=some (.lst [.int (k+1)]):=Zs ga
 generalize g.set a (.lst [.int (k+1)])=g1 at e1 k1 ga1
 have z6:mOp2 pAdd (mLit (.int 1)) (mOp2 pMod (mOp2 QK (mVar 3) (mLit (.int 8))) (mLit (.int 6))) [some (.fl (ns.map .int)),some (.ref a),some (.int sg),some (.int q),none,none] g1=.ok (.int (1+q / 8 % 6)) g1:=Qj (x:=.int 1) (y:=.int (q / 8 % 6)) (g1:=g1) (g2:=g1) rfl (Qj (x:=.int (q / 8)) (y:=.int 6) (g1:=g1) (g2:=g1) (Qj rfl rfl (divP (by decide) (by decide))) rfl (modP (by decide))) rfl
 have r0:=Int.emod_nonneg (q / 8) (show(6:Int)≠0 by decide)
 have r1:=Int.emod_lt_of_pos (q / 8) (show(0:Int)<6 by decide)
 have eN:mOpA newL (Qa (mLit (.int 1)) (Qa (mLit (.int 1)) (Qa (mLit (.int 2)) (Qa (mLit (.int 2)) (Qa (mLit (.int 3)) (Qa (mLit (.int 3)) (Qa (mOp2 pAdd (mLit (.int 1)) (mOp2 pMod (mOp2 QK (mVar 3) (mLit (.int 8))) (mLit (.int 6)))) (Qa (mLit (.int 20)) mNil)))))))) [some (.fl (ns.map .int)),some (.ref a),some (.int sg),some (.int q),none,none] g1=.ok (.ref g1.length) (g1++[.lst [.int 1,.int 1,.int 2,.int 2,.int 3,.int 3,.int (1+q / 8 % 6),.int 20]]):=Zp (Qd (g1:=g1) rfl (Qd (g1:=g1) rfl (Qd (g1:=g1) rfl (Qd (g1:=g1) rfl (Qd (g1:=g1) rfl (Qd (g1:=g1) rfl (Qd z6 (Qd (g1:=g1) rfl rfl)))))))) rfl
 have k2:Keeps [] g1 (g1++[.lst [.int 1,.int 1,.int 2,.int 2,.int 3,.int 3,.int (1+q / 8 % 6),.int 20]]):=.push _
 have p2:(g1++[GO.lst [.int 1,.int 1,.int 2,.int 2,.int 3,.int 3,.int (1+q / 8 % 6),.int 20]])[g1.length]?=some (.lst [.int 1,.int 1,.int 2,.int 2,.int 3,.int 3,.int (1+q / 8 % 6),.int 20]):=Ql _
 generalize g1++[GO.lst [.int 1,.int 1,.int 2,.int 2,.int 3,.int 3,.int (1+q / 8 % 6),.int 20]]=g2 at eN k2 p2
 have w0:=Int.emod_nonneg q (show(8:Int)≠0 by decide)
 have w1:=Int.emod_lt_of_pos q (show(0:Int)<8 by decide)
 have hpick:∃ v:Nat,1≤v∧v≤20∧[D.int 1,.int 1,.int 2,.int 2,.int 3,.int 3,.int (1+q / 8 % 6),.int 20][(q % 8).toNat]?=some (.int v):=by
  rcases(by omega:q % 8=0∨q % 8=1∨q % 8=2∨q % 8=3∨q % 8=4∨q % 8=5∨q % 8=6∨q % 8=7) with e | e | e | e | e | e | e | e <;> rw [e]
  ·exact⟨1,by decide,by decide,rfl⟩
  ·exact⟨1,by decide,by decide,rfl⟩
  ·exact⟨2,by decide,by decide,rfl⟩
  ·exact⟨2,by decide,by decide,rfl⟩
  ·exact⟨3,by decide,by decide,rfl⟩
  ·exact⟨3,by decide,by decide,rfl⟩
  ·exact⟨(1+q / 8 % 6).toNat,by omega,by omega,by rw [Int.toNat_of_nonneg (by omega)]; rfl⟩
  ·exact⟨20,by decide,by decide,rfl⟩
 obtain⟨v,v1,v2,hv⟩:=hpick
 have e2:mOp2 pIx (mOpA newL (Qa (mLit (.int 1)) (Qa (mLit (.int 1)) (Qa (mLit (.int 2)) (Qa (mLit (.int 2)) (Qa (mLit (.int 3)) (Qa (mLit (.int 3)) (Qa (mOp2 pAdd (mLit (.int 1)) (mOp2 pMod (mOp2 QK (mVar 3) (mLit (.int 8))) (mLit (.int 6)))) (Qa (mLit (.int 20)) mNil))))))))) (mOp2 pMod (mVar 3) (mLit (.int 8))) [some (.fl (ns.map .int)),some (.ref a),some (.int sg),some (.int q),none,none] g1=.ok (.int v) g2:=Qj (x:=.ref g1.length) (y:=.int (q % 8)) (g1:=g2) (g2:=g2) eN (Qj rfl rfl (modP (by decide))) (QcT p2 w0 hv)
 have e3:∃ n:Nat,1≤n∧n≤20∧mIf (Qfa (Qp (mOp2 pEq (mVar 4) (mLit (.int 20)))) (Qp (mOp2 pGt (mOp2 pMod (mOp2 QK (mVar 3) (mLit (.int 8))) (mLit (.int 9))) (mLit (.int 0))))) (mAsg (gSet 4) (mLit (.int 2))) Q9 [some (.fl (ns.map .int)),some (.ref a),some (.int sg),some (.int q),some (.int v),none] g2=.nx [some (.fl (ns.map .int)),some (.ref a),some (.int sg),some (.int q),some (.int n),none] g2:=by
  have t1:Qp (mOp2 pEq (mVar 4) (mLit (.int 20))) [some (.fl (ns.map .int)),some (.ref a),some (.int sg),some (.int q),some (.int v),none] g2=.ok ((v:Int) == 20) g2:=rfl
  have t2:Qp (mOp2 pGt (mOp2 pMod (mOp2 QK (mVar 3) (mLit (.int 8))) (mLit (.int 9))) (mLit (.int 0))) [some (.fl (ns.map .int)),some (.ref a),some (.int sg),some (.int q),some (.int v),none] g2=.ok (decide (0<q / 8 % 9)) g2:=QC (Qj (x:=.int (q / 8 % 9)) (y:=.int 0) (g1:=g2) (g2:=g2) (Qj (x:=.int (q / 8)) (y:=.int 9) (g1:=g2) (g2:=g2) (Qj rfl rfl (divP (by decide) (by decide))) rfl (modP (by decide))) rfl rfl)
  have t3:Qfa (Qp (mOp2 pEq (mVar 4) (mLit (.int 20)))) (Qp (mOp2 pGt (mOp2 pMod (mOp2 QK (mVar 3) (mLit (.int 8))) (mLit (.int 9))) (mLit (.int 0)))) [some (.fl (ns.map .int)),some (.ref a),some (.int sg),some (.int q),some (.int v),none] g2=.ok (((v:Int) == 20) && decide (0<q / 8 % 9)) g2:=by
   unfold Qfa
   rw [t1,Res.bind_ok]
   cases ((v:Int) == 20)
   ·rfl
   ·rw [if_pos rfl,t2]; rfl
  cases hb:((v:Int) == 20) && decide (0<q / 8 % 9) with
  | true=>rw [hb] at t3; exact⟨2,by decide,by decide,ift g2 t3 rfl⟩
  | false=>rw [hb] at t3; exact⟨v,v1,v2,iff' g2 t3 rfl⟩
 obtain⟨n,n1,n2,e3⟩:=e3
 obtain⟨tu,tu0,tu1,e4⟩:=JW ns a (k+1) g2 (k2.at' _ _ (by simp) ga1) (by omega) (by omega)
 rw [show k+1+1=k+2 by omega] at e4
 have k4:Keeps [a] g2 (g2.set a (.lst [.int (k+2)])):=.set _ _
 have ga4:(g2.set a (.lst [.int (k+2)]))[a]?=some (.lst [.int (k+2)]):=Zs (k2.at' _ _ (by simp) ga1)
 generalize g2.set a (.lst [.int (k+2)])=g4 at e4 k4 ga4
 obtain⟨w,w3,w4,e5⟩:=Qf6 (n:=n) (m:=q) (tu:=tu) (x0:=some (.fl (ns.map .int))) (x1:=some (.ref a)) (g:=g4) hs n2 rfl
 have k5:Keeps [] g4 (g4++[.lst (w.map .int)]):=.push _
 have p5:(g4++[GO.lst (w.map .int)])[g4.length]?=some (.lst (w.map .int)):=Ql _
 generalize g4++[GO.lst (w.map .int)]=g5 at e5 k5 p5
 refine⟨w,g5,Q1 rfl ?_,fun z=>by rw [z] at w3; have:([]:List Int).length=0:=rfl; omega,w4,by omega,k1.trans (k2.all.trans (k4.trans k5.all)),k5.at' _ _ (by simp) ga4⟩
 show Qb2 [some (.fl (ns.map .int)),some (.ref a),some (.int sg),none,none,none] g=_
 unfold Qb2
 refine Qh [some (.fl (ns.map .int)),some (.ref a),some (.int sg),some (.int q),none,none] g1 (QE (by rw [Qm (ds:=[.fl (ns.map .int),.ref a]) (g':=g) rfl]; exact e1)) ?_
 refine Qh [some (.fl (ns.map .int)),some (.ref a),some (.int sg),some (.int q),some (.int v),none] g2 (QE e2) (Qh _ g2 e3 ?_)
 refine Qh [some (.fl (ns.map .int)),some (.ref a),some (.int sg),some (.int q),some (.int n),some (.int tu)] g4 (QE (by rw [Qm (ds:=[.fl (ns.map .int),.ref a]) (g':=g2) rfl]; exact e4)) (Q5 (QL e5 ?_))
 unfold ZH
 dsimp only
 rw [p5]
end L3
end
section
namespace L3
open PySem
theorem Y8 {c:MT} {body:MS}:∀(f:Nat) (σ:S3) (g:G),Zy c body f σ g≠.stuck->∀ f',f≤f'->Zy c body f' σ g=Zy c body f σ g
 | 0,_,_,h,_,_=>absurd rfl h
 | f+1,σ,g,h,f',hf=>by
  obtain⟨k,rfl⟩:∃ k,f'=k+1:=⟨f' - 1,by omega⟩
  unfold Zy at h ⊢
  cases hc:c σ g with
  | stuck=>rfl
  | raise e g1=>rfl
  | ok b g1 =>
   cases b with
   | false=>rfl
   | true =>
    rw [hc] at h
    dsimp only at h ⊢
    cases hb:body σ g1 with
    | nx σ2 g2=>rw [hb] at h; exact Y8 f σ2 g2 h k (by omega)
    | ct σ2 g2=>rw [hb] at h; exact Y8 f σ2 g2 h k (by omega)
    | bk σ2 g2=>rfl
    | rt d g2=>rfl
    | raise e σ2 g2=>rfl
    | stuck=>rfl
theorem Qd9 {c:MT} {body:MS} {f:Nat} {σ:S3} {g:G} {R:Out} (h:Zy c body f σ g=R) (hR:R≠.stuck):Qcx c body σ g=R:=by
 have hx:∃ f,Zy c body f σ g≠.stuck:=⟨f,by rw [h]; exact hR⟩
 unfold Qcx
 rw [dif_pos hx]
 have h1:=hx.choose_spec
 rcases Nat.le_total f hx.choose with z | z
 ·rw [Y8 f σ g (by rw [h]; exact hR) _ z,h]
 ·rw [← Y8 _ σ g h1 f z,h]
theorem Qbx {n q:Nat} {xs ys:List D} {σ:S3} {g g2:G} {o e:ME} (ho:o σ g=.ok (.ref n) g) (h:g[n]?=some (.lst xs)) (he:e σ g=.ok (.ref q) g2) (h2:g2[n]?=some (.lst xs)) (h3:g2[q]?=some (.lst ys)) (hq:n≠q) (hz:xs.length+ys.length≤1000) :
  Zw (YS o e) σ g=.nx σ (g2.set n (.lst (xs++ys))):=by
 refine Z7 (d:=.non) ?_
 unfold YS
 rw [ho,Res.bind_ok]
 dsimp only
 rw [h]
 dsimp only
 rw [he,Res.bind_ok]
 dsimp only
 rw [h2,h3]
 dsimp only
 rw [if_pos ⟨hq,Nat.le_of_lt (QiL hz)⟩]
noncomputable def Ev (h0:G) (r:Nat) (os:List Tk) (σ:S3) (e:ME):Prop:=∀ h,Keeps [] h0 h->∃(p:Nat) (us:List Tk) (h':G),e σ h=.ok (.ref p) h'∧Keeps [] h h'∧h'[p]?=some (.lst (us.map tkD))∧(∀ t∈us,t∈os)∧us.length≤os.length∧p≠r
theorem Qku {h0:G} {r:Nat} {os:List Tk} {σ:S3} (hr:r<h0.length):Ev h0 r os σ (mOpA newL mNil):=fun h k=>⟨h.length,[],h++[.lst []],rfl,.push _,Ql _,(fun t ht=>by cases ht),Nat.zero_le _,by have:=k.len; omega⟩
theorem Qkv {h0:G} {r o i:Nat} {os:List Tk} {σ:S3} (hv:σ[i]?=some (some (.ref o))) (ho:h0[o]?=some (.lst (os.map tkD))) (hor:o≠r):Ev h0 r os σ (mVar i):=fun h k=>⟨o,os,h,by unfold mVar; rw [hv],.refl,k.at' _ _ (by simp) ho,fun t ht=>ht,Nat.le_refl _,hor⟩
theorem Qea {α β:Type} (f:α->β) (xs:List α) (lo hi:Option Int):cutD (xs.map f) lo hi=(cutD xs lo hi).map f:=by
 unfold cutD
 rw [List.length_map,List.map_take,List.map_drop]
theorem Qau {α:Type} {xs:List α} {lo hi:Option Int}:∀ t∈cutD xs lo hi,t∈xs:=fun t ht=>List.mem_of_mem_drop (List.mem_of_mem_take ht)
theorem Qcf {α:Type} {xs:List α} {lo hi:Option Int}:(cutD xs lo hi).length≤xs.length:=by
 unfold cutD
 rw [List.length_take,List.length_drop]; omega
theorem QhF {h0:G} {r o i:Nat} {os:List Tk} {σ:S3} {lo hi:MO} {l u:Option Int} (hv:σ[i]?=some (some (.ref o))) (ho:h0[o]?=some (.lst (os.map tkD))) (hr:r<h0.length) (hl:∀ h,lo σ h=.ok l h) (hu:∀ h,hi σ h=.ok u h):Ev h0 r os σ (ZA (mVar i) lo hi):=fun h k=>by
 refine⟨h.length,cutD os l u,h++[.lst ((cutD os l u).map tkD)],?_,.push _,Ql _,Qau,Qcf,by have:=k.len; omega⟩
 unfold ZA
 rw [show mVar i σ h=.ok (.ref o) h by unfold mVar; rw [hv],Res.bind_ok,hl,Res.bind_ok,hu,Res.bind_ok]
 unfold QcC
 dsimp only
 rw [k.at' _ _ (by simp) ho]
 dsimp only
 rw [Qea]
theorem QhG {h0:G} {r:Nat} {os:List Tk} {σ:S3} {a1 a2 a3 a4 a5 a6 ix:ME} {i:Int} (e1:Ev h0 r os σ a1) (e2:Ev h0 r os σ a2) (e3:Ev h0 r os σ a3) (e4:Ev h0 r os σ a4) (e5:Ev h0 r os σ a5) (e6:Ev h0 r os σ a6) (hi:∀ h,ix σ h=.ok (.int (i % 6)) h):Ev h0 r os σ (mOp2 pIx (mOpA newL (Qa a1 (Qa a2 (Qa a3 (Qa a4 (Qa a5 (Qa a6 mNil))))))) ix):=fun h k=>by
 obtain⟨p1,u1,h1,c1,k1,l1,m1,z1,n1⟩:=e1 h k
 obtain⟨p2,u2,h2,c2,k2,l2,m2,z2,n2⟩:=e2 h1 (k.trans k1)
 obtain⟨p3,u3,h3,c3,k3,l3,m3,z3,n3⟩:=e3 h2 ((k.trans k1).trans k2)
 obtain⟨p4,u4,h4,c4,k4,l4,m4,z4,n4⟩:=e4 h3 (((k.trans k1).trans k2).trans k3)
 obtain⟨p5,u5,h5,c5,k5,l5,m5,z5,n5⟩:=e5 h4 ((((k.trans k1).trans k2).trans k3).trans k4)
 obtain⟨p6,u6,h6,c6,k6,l6,m6,z6,n6⟩:=e6 h5 (((((k.trans k1).trans k2).trans k3).trans k4).trans k5)
 have kp:Keeps [] h6 (h6++[.lst [.ref p1,.ref p2,.ref p3,.ref p4,.ref p5,.ref p6]]):=.push _
 have pp:(h6++[GO.lst [.ref p1,.ref p2,.ref p3,.ref p4,.ref p5,.ref p6]])[h6.length]?=some (.lst [.ref p1,.ref p2,.ref p3,.ref p4,.ref p5,.ref p6]):=Ql _
 have eN:mOpA newL (Qa a1 (Qa a2 (Qa a3 (Qa a4 (Qa a5 (Qa a6 mNil)))))) σ h=.ok (.ref h6.length) (h6++[.lst [.ref p1,.ref p2,.ref p3,.ref p4,.ref p5,.ref p6]]):=Zp (Qd c1 (Qd c2 (Qd c3 (Qd c4 (Qd c5 (Qd c6 rfl)))))) rfl
 generalize h6++[GO.lst [.ref p1,.ref p2,.ref p3,.ref p4,.ref p5,.ref p6]]=h7 at kp pp eN
 have w0:=Int.emod_nonneg i (show(6:Int)≠0 by decide)
 have w1:=Int.emod_lt_of_pos i (show(0:Int)<6 by decide)
 have kk:Keeps [] h h7:=k1.trans (k2.trans (k3.trans (k4.trans (k5.trans (k6.trans kp)))))
 have fin:∀(p:Nat) (us:List Tk) (g:G),g[p]?=some (.lst (us.map tkD))->Keeps [] g h7->(∀ t∈us,t∈os)->us.length≤os.length->p≠r->[D.ref p1,.ref p2,.ref p3,.ref p4,.ref p5,.ref p6][(i % 6).toNat]?=some (.ref p)->∃(p:Nat) (us:List Tk) (h':G),mOp2 pIx (mOpA newL (Qa a1 (Qa a2 (Qa a3 (Qa a4 (Qa a5 (Qa a6 mNil))))))) ix σ h=.ok (.ref p) h'∧Keeps [] h h'∧h'[p]?=some (.lst (us.map tkD))∧(∀ t∈us,t∈os)∧us.length≤os.length∧p≠r:=fun p us g hp kg hm hz hn hix=>⟨p,us,h7,Qj eN (hi h7) (QcT pp w0 hix),kk,kg.at' _ _ (by simp) hp,hm,hz,hn⟩
 rcases(by omega:i % 6=0∨i % 6=1∨i % 6=2∨i % 6=3∨i % 6=4∨i % 6=5) with e | e | e | e | e | e
 ·exact fin p1 u1 h1 l1 (k2.trans (k3.trans (k4.trans (k5.trans (k6.trans kp))))) m1 z1 n1 (by rw [e]; rfl)
 ·exact fin p2 u2 h2 l2 (k3.trans (k4.trans (k5.trans (k6.trans kp)))) m2 z2 n2 (by rw [e]; rfl)
 ·exact fin p3 u3 h3 l3 (k4.trans (k5.trans (k6.trans kp))) m3 z3 n3 (by rw [e]; rfl)
 ·exact fin p4 u4 h4 l4 (k5.trans (k6.trans kp)) m4 z4 n4 (by rw [e]; rfl)
 ·exact fin p5 u5 h5 l5 (k6.trans kp) m5 z5 n5 (by rw [e]; rfl)
 ·exact fin p6 u6 h6 l6 kp m6 z6 n6 (by rw [e]; rfl)
noncomputable def TkL:Tk->Prop
 | .one s=>0≤s
 | .many w k=>w≠[]∧(∀ x∈w,0≤x)∧0≤k∧w.length≤20∧k≤4
theorem TkL.ok {t:Tk} (h:TkL t):TkOk t:=by
 cases t with
 | one s=>exact h
 | many w k=>exact⟨h.1,h.2.1,h.2.2.1,h.2.2.2.1,by have:=h.2.2.2.2; omega⟩
theorem TkL.raise {t:Tk} (h:TkL t):TkOk (Zf t):=by
 cases t with
 | one s=>exact h
 | many w k=>exact⟨h.1,h.2.1,by show 0≤k+1; have:=h.2.2.1; omega,h.2.2.2.1,by show k+1≤5; have:=h.2.2.2.2; omega⟩
theorem QiR {w:List Int} {x0 x1 x2 x3 x4 x5 x7:Option D} {g:G} (h0:∀ x∈w,0≤x) (hw:w.length≤20) :
  ∃ os:List Tk,os.length≤7∧(∀ t∈os,TkL t)∧Ya (QW (ZA (mVar 6) Zb (YJ (mLit (.int 7))))) 1 [6] (gSet 0) (Qp (mOp2 pLt (mOp1 pLen (mVar 1)) (mLit (.int 8)))) (mOpA pTup (Qa (mLit (.str (Str.ofString "one"))) (Qa (mVar 0) mNil))) [x0,x1,x2,x3,x4,x5,some (.tup (w.map .int)),x7] g=.ok (.ref g.length) (g++[.lst (os.map tkD)]):=by
 have hcut:cutD (w.map D.int) none (some 7)=(cutD w none (some 7)).map D.int:=Qea _ _ _ _
 have hcl:(cutD w none (some 7)).length≤7:=by
  unfold cutD
  rw [List.length_take]
  show min (min (7:Int).toNat w.length - 0) _≤7
  have:(7:Int).toNat=7:=rfl
  omega
 have hcm:∀ x∈cutD w none (some 7),0≤x:=fun x hx=>h0 x (Qau x hx)
 generalize cutD w none (some 7)=v at hcut hcl hcm
 have hit:QW (ZA (mVar 6) Zb (YJ (mLit (.int 7)))) [x0,x1,x2,x3,x4,x5,some (.tup (w.map .int)),x7] g=.ok ⟨fun _ i=>some (v.map D.int)[i]?,(v.map D.int).length⟩ g:=by rw [← hcut]; rfl
 have hvl:(v.map D.int).length=v.length:=List.length_map _
 obtain⟨xs,σ',g3,c1,os,c2,c3,c4,c5,_⟩:=ZQ (src:=⟨fun _ i=>some (v.map D.int)[i]?,(v.map D.int).length⟩) (t:=gSet 0) (c:=Qp (mOp2 pLt (mOp1 pLen (mVar 1)) (mLit (.int 8)))) (e:=mOpA pTup (Qa (mLit (.str (Str.ofString "one"))) (Qa (mVar 0) mNil))) (n:=v.length)
  (fun i σ' g4 acc=>∃ os:List Tk,acc=os.map tkD∧os.length≤i∧(∀ t∈os,TkL t)∧g4=g∧∃ u,σ'=[u,some (.tup (w.map .int))]) (fun i σ' g4 acc hi hQ=>by
   obtain⟨os,q1,q2,q3,q4,u,q5⟩:=hQ
   subst q4 q5
   have t1:Qp (mOp2 pLt (mOp1 pLen (mVar 1)) (mLit (.int 8))) [some (.int v[i]),some (.tup (w.map .int))] g4=.ok (decide (((w.map D.int).length:Int)<8)) g4:=rfl
   refine⟨.int v[i],[some (.int v[i]),some (.tup (w.map .int))],g4,by dsimp only; rw [List.getElem?_map,List.getElem?_eq_getElem hi]; rfl,rfl,?_⟩
   cases hb:decide (((w.map D.int).length:Int)<8) with
   | true =>
    rw [hb] at t1
    refine .inl ⟨tkD (.one v[i]),g4,t1,rfl,os++[.one v[i]],by rw [q1,List.map_append]; rfl,by rw [List.length_append]; show os.length+1≤i+1; omega,fun t ht=>?_,rfl,_,rfl⟩
    rcases List.mem_append.mp ht with z | z
    ·exact q3 t z
    ·rw [List.mem_singleton.mp z]; exact hcm _ (List.getElem_mem hi)
   | false=>rw [hb] at t1; exact .inr ⟨t1,os,q1,by omega,q3,rfl,_,rfl⟩) (fun σ g4 acc _=>by dsimp only; rw [List.getElem?_eq_none (by rw [hvl]; exact Nat.le_refl _)]) ((v.map D.int).length+1) 0 [none,some (.tup (w.map .int))] g [] (by omega) (by omega) ⟨[],rfl,Nat.le_refl _,(fun t h=>by cases h),rfl,none,rfl⟩
 subst c2 c5
 exact⟨os,by omega,c4,YV (n:=1) (cap:=[6]) (σ0:=[none,some (.tup (w.map .int))]) hit (Nat.le_of_lt (QiL (show(v.map D.int).length≤1000 by omega))) rfl c1⟩
end L3
end
section
namespace L3
open PySem
theorem Keeps.lst {S:List Nat} {g g1:G} (a:Keeps S g g1) {n:Nat} {o:GO} (h:g[n]?=some o) (hn:n∉S):g1[n]?=some o:=a.at' n o hn h
theorem Qdr (ns:List Int) {a r sg:Nat} {k:Int} {x3 x5 x6 x7:Option D} {ts:List Tk} {g:G} (hs:0<sg) (ga:g[a]?=some (.lst [.int k])) (gr:g[r]?=some (.lst (ts.map tkD))) (har:a≠r) (hk:0≤k) (hk2:k<800000000) (hts:∀ t∈ts,TkL t) (hz:ts.length≤100) :
    ∃(ts':List Tk) (k':Int) (g':G),k≤k'∧k'≤k+3∧Keeps [a,r] g g'∧g'[a]?=some (.lst [.int k'])∧g'[r]?=some (.lst (ts'.map tkD))∧(∀ t∈ts',TkL t) ∧
      ((ZF [some (.fl (ns.map .int)),some (.ref a),some (.int sg),x3,some (.ref r),x5,x6,x7] g=.rt (.ref r) g'∧ts'=ts) ∨
       (∃ y5 y6 y7,ZF [some (.fl (ns.map .int)),some (.ref a),some (.int sg),x3,some (.ref r),x5,x6,x7] g=.nx [some (.fl (ns.map .int)),some (.ref a),some (.int sg),x3,some (.ref r),y5,y6,y7] g'∧ts.length<ts'.length∧ts'.length≤ts.length+15)):=by
  obtain⟨q,q0,q1,e1⟩:=JW ns a k g ga hk (by omega)
  have k1:Keeps [a] g (g.set a (.lst [.int (k+1)])):=.set _ _
  have ga1:(g.set a (.lst [.int (k+1)]))[a]?=some (.lst [.int (k+1)]):=Zs ga
  generalize g.set a (.lst [.int (k+1)])=g1 at e1 k1 ga1
  have gr1:g1[r]?=some (.lst (ts.map tkD)):=k1.at' _ _ (by simp; omega) gr
  have hA:mAsg (gSet 5) (Qs ZV (Qa (mVar 0) (Qa (mVar 1) mNil))) [some (.fl (ns.map .int)),some (.ref a),some (.int sg),x3,some (.ref r),x5,x6,x7] g=.nx [some (.fl (ns.map .int)),some (.ref a),some (.int sg),x3,some (.ref r),some (.int q),x6,x7] g1:=QE (by rw [Qm (ds:=[.fl (ns.map .int),.ref a]) (g':=g) rfl]; exact e1)
  have hm:mOp2 pMod (mVar 5) (mLit (.int 5)) [some (.fl (ns.map .int)),some (.ref a),some (.int sg),x3,some (.ref r),some (.int q),x6,x7] g1=.ok (.int (q % 5)) g1:=Qj rfl rfl (modP (by decide))
  have t1:Qp (mOp2 pEq (mOp2 pMod (mVar 5) (mLit (.int 5))) (mLit (.int 0))) [some (.fl (ns.map .int)),some (.ref a),some (.int sg),x3,some (.ref r),some (.int q),x6,x7] g1=.ok (q % 5 == 0) g1:=QC (Qj hm rfl rfl)
  have t2:Qp (mOp2 pLt (mOp2 pMod (mVar 5) (mLit (.int 5))) (mLit (.int 3))) [some (.fl (ns.map .int)),some (.ref a),some (.int sg),x3,some (.ref r),some (.int q),x6,x7] g1=.ok (decide (q % 5<3)) g1:=QC (Qj hm rfl rfl)
  cases h0:(q % 5 == 0) with
  | true =>
    rw [h0] at t1
    exact⟨ts,k+1,g1,by omega,by omega,k1.mono (by simp),ga1,gr1,hts,.inl ⟨Qh _ g1 hA (Ys (ift g1 t1 rfl)),rfl⟩⟩
  | false =>
    rw [h0] at t1
    have hd5:mOp2 QK (mVar 5) (mLit (.int 5)) [some (.fl (ns.map .int)),some (.ref a),some (.int sg),x3,some (.ref r),some (.int q),x6,x7] g1=.ok (.int (q / 5)) g1:=Qj rfl rfl (divP (by decide) (by decide))
    cases h3:decide (q % 5<3) with
    | true =>
      rw [h3] at t2
      have ev:mOpA pTup (Qa (mLit (.str (Str.ofString "one"))) (Qa (mOp2 pMod (mOp2 QK (mVar 5) (mLit (.int 5))) (mVar 2)) mNil)) [some (.fl (ns.map .int)),some (.ref a),some (.int sg),x3,some (.ref r),some (.int q),x6,x7] g1=.ok (tkD (.one (q / 5 % sg))) g1:=Zp (Qd (g1:=g1) rfl (Qd (Qj (y:=.int sg) (g2:=g1) hd5 rfl (modP (by omega))) rfl)) rfl
      refine⟨ts++[.one (q / 5 % sg)],k+1,g1.set r (.lst (ts.map tkD++[tkD (.one (q / 5 % sg))])),by omega,by omega,(k1.mono (by simp)).trans ((Keeps.set _ _).mono (by simp)),?_,?_,fun t ht=>?_,.inr ⟨_,_,_,Qh _ g1 hA (Qh _ g1 (iff' g1 t1 rfl) (ift g1 t2 (ZX rfl gr1 ev (by rw [List.length_map]; omega)))),by simp,by simp⟩⟩
      · rw [List.getElem?_set_ne (fun z=>har z.symm)]; exact ga1
      · rw [Zs gr1,List.map_append]; rfl
      · rcases List.mem_append.mp ht with z | z
        · exact hts t z
        · rw [List.mem_singleton.mp z]; exact Int.emod_nonneg _ (by omega)
    | false =>
      rw [h3] at t2
      obtain⟨w,g2,e2,w1,w2,w3,k2,ga2⟩:=Qg6 ns (sg:=sg) hs ga1 (by omega) (by omega)
      rw [show k+1+2=k+3 by omega] at ga2
      have gr2:g2[r]?=some (.lst (ts.map tkD)):=k2.at' _ _ (by simp; omega) gr1
      obtain⟨os,o1,o2,e3⟩:=QiR (x0:=some (.fl (ns.map .int))) (x1:=some (.ref a)) (x2:=some (.int sg)) (x3:=x3) (x4:=some (.ref r)) (x5:=some (.int q)) (x7:=x7) (g:=g2) w2 w3
      have k3:Keeps [] g2 (g2++[.lst (os.map tkD)]):=.push _
      have p3:(g2++[GO.lst (os.map tkD)])[g2.length]?=some (.lst (os.map tkD)):=Ql _
      have hro:r<g2.length:=Zd gr2
      have hor:g2.length≠r:=by omega
      generalize g2.length=o at p3 e3 hor
      generalize g2++[GO.lst (os.map tkD)]=g3 at e3 k3 p3
      have gr3:=k3.at' _ _ (by simp) gr2
      have ga3:=k3.at' _ _ (by simp) ga2
      have hr3:=Zd gr3
      have hm5:∀ h,mOp2 pMod (mOp2 QK (mVar 5) (mLit (.int 5))) (mLit (.int 6)) [some (.fl (ns.map .int)),some (.ref a),some (.int sg),x3,some (.ref r),some (.int q),some (.tup (w.map .int)),some (.ref o)] h=.ok (.int (q / 5 % 6)) h:=fun h=>Qj (g1:=h) (g2:=h) (Qj (g1:=h) (g2:=h) rfl rfl (divP (by decide) (by decide))) rfl (modP (by decide))
      have hm120:∀ h,mOp2 pMod (mOp2 QK (mVar 5) (mLit (.int 120))) (mLit (.int 6)) [some (.fl (ns.map .int)),some (.ref a),some (.int sg),x3,some (.ref r),some (.int q),some (.tup (w.map .int)),some (.ref o)] h=.ok (.int (q / 120 % 6)) h:=fun h=>Qj (g1:=h) (g2:=h) (Qj (g1:=h) (g2:=h) rfl rfl (divP (by decide) (by decide))) rfl (modP (by decide))
      have hm30:∀ h,mOp2 pMod (mOp2 QK (mVar 5) (mLit (.int 30))) (mLit (.int 4)) [some (.fl (ns.map .int)),some (.ref a),some (.int sg),x3,some (.ref r),some (.int q),some (.tup (w.map .int)),some (.ref o)] h=.ok (.int (q / 30 % 4)) h:=fun h=>Qj (g1:=h) (g2:=h) (Qj (g1:=h) (g2:=h) rfl rfl (divP (by decide) (by decide))) rfl (modP (by decide))
      have six:∀ h0,r<h0.length->h0[o]?=some (.lst (os.map tkD))->Ev h0 r os [some (.fl (ns.map .int)),some (.ref a),some (.int sg),x3,some (.ref r),some (.int q),some (.tup (w.map .int)),some (.ref o)] (mOpA newL mNil)∧Ev h0 r os [some (.fl (ns.map .int)),some (.ref a),some (.int sg),x3,some (.ref r),some (.int q),some (.tup (w.map .int)),some (.ref o)] (mVar 7)∧Ev h0 r os [some (.fl (ns.map .int)),some (.ref a),some (.int sg),x3,some (.ref r),some (.int q),some (.tup (w.map .int)),some (.ref o)] (ZA (mVar 7) (YJ (mOp1 pNeg (mLit (.int 1)))) Zb)∧Ev h0 r os [some (.fl (ns.map .int)),some (.ref a),some (.int sg),x3,some (.ref r),some (.int q),some (.tup (w.map .int)),some (.ref o)] (ZA (mVar 7) Zb (YJ (mLit (.int 1)))):=fun h0 hr ho=>⟨Qku hr,Qkv rfl ho hor,QhF rfl ho hr (fun _=>rfl) (fun _=>rfl),QhF rfl ho hr (fun _=>rfl) (fun _=>rfl)⟩
      obtain⟨s1,s2,s3,s4⟩:=six g3 hr3 p3
      obtain⟨p,us,g4,e4,k4,p4,u1,u2,u3⟩:=QhG (i:=q / 5) s1 s2 s3 s4 s2 s1 hm5 g3 .refl
      have gr4:=k4.at' _ _ (by simp) gr3
      have x1:=Qbx (o:=mVar 4) rfl gr3 e4 gr4 p4 (fun z=>u3 z.symm) (by rw [List.length_map,List.length_map]; omega)
      have k5:Keeps [r] g4 (g4.set r (.lst (ts.map tkD++us.map tkD))):=.set _ _
      have gr5:(g4.set r (.lst (ts.map tkD++us.map tkD)))[r]?=some (.lst (ts.map tkD++us.map tkD)):=Zs gr4
      generalize g4.set r (.lst (ts.map tkD++us.map tkD))=g5 at x1 k5 gr5
      have ev:mOpA pTup (Qa (mLit (.str (Str.ofString "many"))) (Qa (mVar 6) (Qa (mOp2 pMod (mOp2 QK (mVar 5) (mLit (.int 30))) (mLit (.int 4))) mNil))) [some (.fl (ns.map .int)),some (.ref a),some (.int sg),x3,some (.ref r),some (.int q),some (.tup (w.map .int)),some (.ref o)] g5=.ok (tkD (.many w (q / 30 % 4))) g5:=Zp (Qd (g1:=g5) rfl (Qd (g1:=g5) rfl (Qd (hm30 g5) rfl))) rfl
      have x2:=ZX (o:=mVar 4) rfl gr5 ev (by rw [List.length_append,List.length_map,List.length_map]; omega)
      have k6:Keeps [r] g5 (g5.set r (.lst (ts.map tkD++us.map tkD++[tkD (.many w (q / 30 % 4))]))):=.set _ _
      have gr6:(g5.set r (.lst (ts.map tkD++us.map tkD++[tkD (.many w (q / 30 % 4))])))[r]?=some (.lst (ts.map tkD++us.map tkD++[tkD (.many w (q / 30 % 4))])):=Zs gr5
      generalize g5.set r (.lst (ts.map tkD++us.map tkD++[tkD (.many w (q / 30 % 4))]))=g6 at x2 k6 gr6
      have p6:=k6.at' _ _ (by simp; omega) (k5.at' _ _ (by simp; omega) (k4.at' _ _ (by simp) p3))
      obtain⟨r1,r2,r3,r4⟩:=six g6 (Zd gr6) p6
      obtain⟨p',vs,g7,e7,k7,p7,v1,v2,v3⟩:=QhG (i:=q / 120) r1 r2 r4 r3 r1 r2 hm120 g6 .refl
      have gr7:=k7.at' _ _ (by simp) gr6
      have x3':=Qbx (o:=mVar 4) rfl gr6 e7 gr7 p7 (fun z=>v3 z.symm) (by rw [List.length_append,List.length_append,List.length_map,List.length_map,List.length_map]; simp; omega)
      have ga7:=k7.at' _ _ (by simp) (k6.at' _ _ (by simp; omega) (k5.at' _ _ (by simp; omega) (k4.at' _ _ (by simp) ga3)))
      refine⟨ts++us++[.many w (q / 30 % 4)]++vs,k+3,g7.set r (.lst (ts.map tkD++us.map tkD++[tkD (.many w (q / 30 % 4))]++vs.map tkD)),by omega,by omega,?_,?_,?_,fun t ht=>?_,.inr ⟨_,_,_,Qh _ g1 hA (Qh _ g1 (iff' g1 t1 rfl) (iff' g1 t2 (Qh _ g2 (QE (by rw [Qm (ds:=[.fl (ns.map .int),.ref a,.int sg]) (g':=g1) rfl]; exact e2)) (Qh _ g3 (QE e3) (Qh _ g5 x1 (Qh _ g6 x2 x3')))))),?_,?_⟩⟩
      · exact(k1.mono (by simp)).trans ((k2.mono (by simp)).trans (k3.all.trans (k4.all.trans ((k5.mono (by simp)).trans ((k6.mono (by simp)).trans (k7.all.trans ((Keeps.set _ _).mono (by simp))))))))
      · rw [List.getElem?_set_ne (fun z=>har z.symm)]; exact ga7
      · rw [Zs gr7,List.map_append,List.map_append,List.map_append]; rfl
      · rcases List.mem_append.mp ht with z | z
        · rcases List.mem_append.mp z with z | z
          · rcases List.mem_append.mp z with z | z
            · exact hts t z
            · exact o2 t (u1 t z)
          · rw [List.mem_singleton.mp z]
            exact⟨w1,w2,Int.emod_nonneg _ (by decide),w3,by have:=Int.emod_lt_of_pos (q / 30) (show(0:Int)<4 by decide); omega⟩
        · exact o2 t (v1 t z)
      · simp; omega
      · simp; omega
end L3
end
section
namespace L3
open PySem
theorem Qa2 (ns:List Int) {a r sg most:Nat} (hs:0<sg) (har:a≠r) (hm:most≤4):∀(n:Nat) (ts:List Tk) (k:Int) (x5 x6 x7:Option D) (g:G),most - ts.length≤n->g[a]?=some (.lst [.int k])->g[r]?=some (.lst (ts.map tkD))->0≤k->k+3*n<800000000->(∀ t∈ts,TkL t)->ts.length≤18 ->
    ∃(f:Nat) (ts':List Tk) (k':Int) (g':G),k≤k'∧k'≤k+3*n∧Keeps [a,r] g g'∧g'[a]?=some (.lst [.int k'])∧g'[r]?=some (.lst (ts'.map tkD))∧(∀ t∈ts',TkL t)∧ts'.length≤18 ∧
      (Zy (Qp (mOp2 pLt (mOp1 pLen (mVar 4)) (mVar 3))) ZF f [some (.fl (ns.map .int)),some (.ref a),some (.int sg),some (.int most),some (.ref r),x5,x6,x7] g=.rt (.ref r) g' ∨
       ∃ y5 y6 y7,Zy (Qp (mOp2 pLt (mOp1 pLen (mVar 4)) (mVar 3))) ZF f [some (.fl (ns.map .int)),some (.ref a),some (.int sg),some (.int most),some (.ref r),x5,x6,x7] g=.nx [some (.fl (ns.map .int)),some (.ref a),some (.int sg),some (.int most),some (.ref r),y5,y6,y7] g')
  | n,ts,k,x5,x6,x7,g,hn,ga,gr,hk,hk2,hts,hl=>by
    have c1:Qp (mOp2 pLt (mOp1 pLen (mVar 4)) (mVar 3)) [some (.fl (ns.map .int)),some (.ref a),some (.int sg),some (.int most),some (.ref r),x5,x6,x7] g=.ok (decide ((ts.length:Int)<most)) g:=QC (Qj (x:=.int ts.length) (y:=.int most) (g1:=g) (g2:=g) (QL (x:=.ref r) (g1:=g) rfl (by unfold pLen; dsimp only; rw [gr]; dsimp only; rw [List.length_map])) rfl rfl)
    by_cases hlt:ts.length<most
    · rw [decide_eq_true (by omega)] at c1
      obtain⟨m,rfl⟩:∃ m,n=m+1:=⟨n - 1,by omega⟩
      obtain⟨ts1,k1,g1,a1,a2,a3,a4,a5,a6,h⟩:=Qdr ns (x3:=some (.int most)) (x5:=x5) (x6:=x6) (x7:=x7) hs ga gr har hk (by omega) hts (by omega)
      rcases h with⟨h1,h2⟩ | ⟨y5,y6,y7,h1,h2,h3⟩
      · refine⟨1,ts1,k1,g1,a1,by omega,a3,a4,a5,a6,by rw [h2]; exact hl,.inl ?_⟩
        unfold Zy
        rw [c1]; dsimp only; rw [h1]
      · obtain⟨f,ts2,k2,g2,b1,b2,b3,b4,b5,b6,b7,b8⟩:=Qa2 ns hs har hm m ts1 k1 y5 y6 y7 g1 (by omega) a4 a5 (by omega) (by omega) a6 (by omega)
        refine⟨f+1,ts2,k2,g2,by omega,by omega,a3.trans b3,b4,b5,b6,b7,?_⟩
        unfold Zy
        rw [c1]; dsimp only; rw [h1]; exact b8
    · rw [decide_eq_false (by omega)] at c1
      refine⟨1,ts,k,g,by omega,by omega,.refl,ga,gr,hts,hl,.inr ⟨x5,x6,x7,?_⟩⟩
      unfold Zy
      rw [c1]
  termination_by n=>n
theorem QcW (ns:List Int) {a sg most:Nat} {k:Int} {g:G} (hs:0<sg) (hm:most≤4) (ga:g[a]?=some (.lst [.int k])) (hk:0≤k) (hk2:k<700000000) :
  ∃(r:Nat) (ts:List Tk) (k':Int) (g':G),Y7 [.fl (ns.map .int),.ref a,.int sg,.int most] g=.ok (.ref r) g'∧g.length≤r∧g'[r]?=some (.lst (ts.map tkD))∧(∀ t∈ts,TkL t)∧ts.length≤18∧k≤k'∧k'≤k+12∧Keeps [a] g g'∧g'[a]?=some (.lst [.int k']):=by
 have k0:Keeps [] g (g++[.lst []]):=.push _
 have p0:(g++[GO.lst []])[g.length]?=some (.lst []):=Ql _
 have hal:=Zd ga
 obtain⟨f,ts,k',g',a1,a2,a3,a4,a5,a6,a7,h⟩:=Qa2 ns (a:=a) (r:=g.length) (sg:=sg) (most:=most) hs (by omega) hm 4 [] k none none none (g++[.lst []]) (by simp; omega) (k0.at' _ _ (by simp) ga) p0 hk (by omega) (fun t h=>by cases h) (Nat.zero_le _)
 have kk:Keeps [a] g g':=⟨Nat.le_trans k0.len a3.len,fun i o hi h=>a3.at' _ _ (by have:=Zd h; simp at hi ⊢; omega) (k0.at' _ _ (by simp) h)⟩
 refine⟨g.length,ts,k',g',Q1 rfl ?_,Nat.le_refl _,a5,a6,a7,a1,by omega,kk,a4⟩
 show JU [some (.fl (ns.map .int)),some (.ref a),some (.int sg),some (.int most),none,none,none,none] g=_
 unfold JU
 refine Qh [some (.fl (ns.map .int)),some (.ref a),some (.int sg),some (.int most),some (.ref g.length),none,none,none] (g++[.lst []]) (QE rfl) ?_
 rcases h with h | ⟨y5,y6,y7,h⟩
 ·exact Ys (Qd9 h (fun z=>by cases z))
 ·exact Qh _ g' (Qd9 h (fun z=>by cases z)) rfl
theorem s_lr:(Str.ofString "lr")=⟨#[108,114]⟩:=by decide +kernel
theorem s_l:(Str.ofString "l")=⟨#[108]⟩:=by decide +kernel
theorem s_r:(Str.ofString "r")=⟨#[114]⟩:=by decide +kernel
theorem Qk8 (i:Int) (g:G):∃ f,lrS f∧pIx (.str (Str.ofString "lr")) (.int (i % 2)) g=.ok (.str f) g:=by
 rw [s_lr]
 rcases(by omega:i % 2=0∨i % 2=1) with e | e
 ·rw [e]
  refine⟨Str.ofString "l",.inl rfl,?_⟩
  rw [s_l]
  unfold pIx
  dsimp only
  rw [if_pos (by decide)]
  rfl
 ·rw [e]
  refine⟨Str.ofString "r",.inr rfl,?_⟩
  rw [s_r]
  unfold pIx
  dsimp only
  rw [if_pos (by decide)]
  rfl
theorem Qf7 (ns:List Int) {a states sg:Nat} {k:Int} {g:G} (hst:0<states) (hs:0<sg) (ga:g[a]?=some (.lst [.int k])) (hk:0≤k) (hk2:k<600000000) :
  ∃(st:Int) (f:Str) (l r:Nat) (tl tr:List Tk) (k':Int) (g':G),QaP [.fl (ns.map .int),.ref a,.int states,.int sg] g=.ok (.tup [.int st,.str f,.ref l,.ref r]) g'∧0≤st∧lrS f∧g'[l]?=some (.lst (tl.map tkD))∧g'[r]?=some (.lst (tr.map tkD))∧(∀ t∈tl,TkL t)∧(∀ t∈tr,TkL t)∧tl.length≤18∧tr.length≤18∧k≤k'∧k'≤k+25∧Keeps [a] g g'∧g'[a]?=some (.lst [.int k'])∧g.length≤l∧l<r:=by
 obtain⟨q,q0,q1,e1⟩:=JW ns a k g ga hk (by omega)
 have k1:Keeps [a] g (g.set a (.lst [.int (k+1)])):=.set _ _
 have ga1:(g.set a (.lst [.int (k+1)]))[a]?=some (.lst [.int (k+1)]):=Zs ga
 generalize g.set a (.lst [.int (k+1)])=g1 at e1 k1 ga1
 have hal:=Zd ga
 obtain⟨l,tl,kl,g2,e2,l1,l2,l3,l4,l5,l6,l7,l8⟩:=QcW ns (most:=(q / 2 % 5).toNat) hs (by omega) ga1 (by omega) (by omega)
 obtain⟨r,tr,kr,g3,e3,r1,r2,r3,r4,r5,r6,r7,r8⟩:=QcW ns (most:=(q / 10 % 5).toNat) hs (by omega) l8 (by omega) (by omega)
 rw [show(((q / 2 % 5).toNat:Nat):Int)=q / 2 % 5 by omega] at e2
 rw [show(((q / 10 % 5).toNat:Nat):Int)=q / 10 % 5 by omega] at e3
 obtain⟨f,hf,ef⟩:=Qk8 q g3
 have hll:=Zd l2
 have:=k1.len
 refine⟨q / 50 % states,f,l,r,tl,tr,kr,g3,Q1 rfl ?_,Int.emod_nonneg _ (by omega),hf,r7.at' _ _ (by simp; omega) l2,r2,l3,r3,l4,r4,by omega,by omega,k1.trans (l7.trans r7),r8,by omega,by omega⟩
 show QaO [some (.fl (ns.map .int)),some (.ref a),some (.int states),some (.int sg),none,none,none] g=_
 unfold QaO
 refine Qh [some (.fl (ns.map .int)),some (.ref a),some (.int states),some (.int sg),some (.int q),none,none] g1 (QE (by rw [Qm (ds:=[.fl (ns.map .int),.ref a]) (g':=g) rfl]; exact e1)) ?_
 refine Qh [some (.fl (ns.map .int)),some (.ref a),some (.int states),some (.int sg),some (.int q),some (.ref l),none] g2 (QE ?_) ?_
 ·rw [Qm (ds:=[.fl (ns.map .int),.ref a,.int sg,.int (q / 2 % 5)]) (g':=g1) (Qd (g1:=g1) rfl (Qd (g1:=g1) rfl (Qd (g1:=g1) rfl (Qd (g1:=g1) (Qj (g1:=g1) (g2:=g1) (Qj (g1:=g1) (g2:=g1) rfl rfl (divP (by decide) (by decide))) rfl (modP (by decide))) rfl))))]
  exact e2
 refine Qh [some (.fl (ns.map .int)),some (.ref a),some (.int states),some (.int sg),some (.int q),some (.ref l),some (.ref r)] g3 (QE ?_) (Q5 ?_)
 ·rw [Qm (ds:=[.fl (ns.map .int),.ref a,.int sg,.int (q / 10 % 5)]) (g':=g2) (Qd (g1:=g2) rfl (Qd (g1:=g2) rfl (Qd (g1:=g2) rfl (Qd (g1:=g2) (Qj (g1:=g2) (g2:=g2) (Qj (g1:=g2) (g2:=g2) rfl rfl (divP (by decide) (by decide))) rfl (modP (by decide))) rfl))))]
  exact e3
 ·exact Zp (Qd (g1:=g3) (Qj (y:=.int states) (g1:=g3) (g2:=g3) (Qj (g1:=g3) (g2:=g3) rfl rfl (divP (by decide) (by decide))) rfl (modP (by omega))) (Qd (g1:=g3) (Qj (x:=.str (Str.ofString "lr")) (y:=.int (q % 2)) (g1:=g3) (g2:=g3) rfl (Qj rfl rfl (modP (by decide))) ef) (Qd (g1:=g3) rfl (Qd (g1:=g3) rfl rfl)))) rfl
theorem Qg7 {st:Int} {f:Str} {l r:Nat} {xs ys:List D} {g:G} (hl:g[l]?=some (.lst xs)) (hr:g[r]?=some (.lst ys)):Qap [.tup [.int st,.str f,.ref l,.ref r]] g=.ok (.tup [.int st,.str f,.tup xs,.tup ys]) g:=by
 refine Q1 rfl ?_
 show Qb6 [some (.tup [.int st,.str f,.ref l,.ref r]),none,none,none,none] g=_
 unfold Qb6
 refine Qh [some (.tup [.int st,.str f,.ref l,.ref r]),some (.int st),some (.str f),some (.ref l),some (.ref r)] g rfl (Q5 ?_)
 have p1:ZH (.ref l) g=.ok (.tup xs) g:=by unfold ZH; dsimp only; rw [hl]
 have p2:ZH (.ref r) g=.ok (.tup ys) g:=by unfold ZH; dsimp only; rw [hr]
 exact Zp (Qd (g1:=g) rfl (Qd (g1:=g) rfl (Qd (g1:=g) (QL (x:=.ref l) (g1:=g) rfl p1) (Qd (g1:=g) (QL (x:=.ref r) (g1:=g) rfl p2) rfl)))) rfl
end L3
end
section
namespace L3
open PySem
inductive Sm (g:G):Nat->D->D->Prop
 | int (f:Nat) (i:Int):Sm g (f+1) (.int i) (.int i)
 | str (f:Nat) (s:Str):Sm g (f+1) (.str s) (.str s)
 | seq (f:Nat) (x y:D) (b:Bool) (xs ys:List D) (h1:Qr g x=some (b,xs)) (h2:Qr g y=some (b,ys)) (hl:xs.length=ys.length) (hz:xs.length≤100000) (hi:∀(i:Nat) u v,xs[i]?=some u->ys[i]?=some v->Sm g f u v):Sm g (f+1) x y
theorem Qds {g:G} {x:D} {b:Bool} {xs:List D} (h:Qr g x=some (b,xs)):pLen x g=.ok (.int xs.length) g:=by
 cases x with
 | ref n =>
  unfold Qr at h
  unfold pLen
  dsimp only at h ⊢
  cases hg:g[n]? with
  | none=>rw [hg] at h; cases h
  | some o =>
   rw [hg] at h
   cases o with
   | lst ds=>cases h; rfl
   | _=>cases h
 | tup ds=>cases h; rfl
 | fl ds=>cases h; rfl
 | _=>cases h
theorem QcX:∀ n:Nat,allB (List.replicate n (.bl true))=some true
 | 0=>rfl
 | n+1=>by rw [List.replicate_succ]; unfold allB; rw [QcX n]; rfl
theorem Qf8 {g:G}:∀ {f:Nat} {x y:D},Sm g f x y->∀ g1,Keeps [] g g1->∃ g2,Zi f [x,y] g1=.ok (.bl true) g2∧Keeps [] g1 g2
 | 0,_,_,h,_,_=>by cases h
 | f+1,x,y,h,g1,k=>by
  cases h with
  | int _ i =>
   refine⟨g1,Q1 rfl ?_,.refl⟩
   show YB (Zi f) [some (.int i),some (.int i)] g1=_
   unfold YB
   refine Qh [some (.int i),some (.int i)] g1 rfl (Qh [some (.int i),some (.int i)] g1 rfl (Qh [some (.int i),some (.int i)] g1 rfl (Q5 ?_)))
   have e:pEq (.int i) (.int i) g1=.ok (.bl true) g1:=by unfold pEq eqT; dsimp only; rw [beq_self_eq_true]
   show mOp2 pEq (mVar 0) (mVar 1) [some (.int i),some (.int i)] g1=_
   exact Qj (x:=.int i) (y:=.int i) (g1:=g1) (g2:=g1) rfl rfl e
  | str _ s =>
   refine⟨g1,Q1 rfl ?_,.refl⟩
   show YB (Zi f) [some (.str s),some (.str s)] g1=_
   unfold YB
   refine Qh [some (.str s),some (.str s)] g1 rfl (Qh [some (.str s),some (.str s)] g1 rfl (Ys (ift g1 rfl (Q5 ?_))))
   have e:pEq (.str s) (.str s) g1=.ok (.bl true) g1:=by rw [eq_s,Zq]
   exact JG (g1:=g1) rfl (Qj (x:=.str s) (y:=.str s) (g1:=g1) (g2:=g1) rfl rfl e)
  | seq _ _ _ b xs ys h1 h2 hl hz hi =>
   have s1:=Qf h1 k
   have s2:=Qf h2 k
   obtain⟨src,e1,e2,e3⟩:=QiM s1 s2 hl
   obtain⟨ds,σ',g2,c1,c2,c3,_⟩:=ZQ (src:=src) (t:=JJ [gSet 0,gSet 1]) (c:=Yj) (e:=Qs (Zi f) (Qa (mVar 0) (Qa (mVar 1) mNil))) (n:=xs.length)
    (fun i σ' g4 acc=>acc=List.replicate i (.bl true)∧Keeps [] g1 g4∧∃ u v,σ'=[u,v]) (fun i σ' g4 acc hi' hQ=>by
     obtain⟨q1,q2,u,v,q3⟩:=hQ
     subst q3
     have hy:i<ys.length:=by omega
     obtain⟨g5,a1,a2⟩:=Qf8 (hi i xs[i] ys[i] (by simp [hi']) (by simp [hy])) g4 (k.trans q2)
     refine⟨.tup [xs[i],ys[i]],[some xs[i],some ys[i]],g4,(e3 g4 (Qf s1 q2) (Qf s2 q2)).2 i _ _ (by simp [hi']) (by simp [hy]),rfl,.inl ⟨.bl true,g5,rfl,?_,?_,q2.trans a2,_,_,rfl⟩⟩
     ·rw [Qm (ds:=[xs[i],ys[i]]) (g':=g4) rfl]; exact a1
     ·rw [q1,List.replicate_succ']) (fun σ g4 acc hQ=>(e3 g4 (Qf s1 hQ.2.1) (Qf s2 hQ.2.1)).1) (src.top+1) 0 [none,none] g1 [] (by omega) (by omega) ⟨rfl,.refl,none,none,rfl⟩
   subst c2
   have c4:=YV (it:=QcA (mVar 0) (mVar 1)) (n:=2) (cap:=[]) (σ:=[some x,some y]) (t:=JJ [gSet 0,gSet 1]) (c:=Yj) (σ0:=[none,none]) (g:=g1) (by
    unfold QcA
    rw [show mVar 0 [some x,some y] g1=.ok x g1 from rfl,Res.bind_ok,show mVar 1 [some x,some y] g1=.ok y g1 from rfl,Res.bind_ok]
    exact e1) (by rw [e2]; exact Nat.le_of_lt (YG hz)) rfl c1
   have kk:Keeps [] g2 (g2++[.lst (List.replicate xs.length (.bl true))]):=.push _
   refine⟨_,Q1 rfl ?_,c3.trans kk⟩
   show YB (Zi f) [some x,some y] g1=_
   have ty1:=Qcd s1
   have ty2:=Qcd s2
   have is0:∀ c:Ty,mOp1 (Zx c) (mVar 0) [some x,some y] g1=.ok (.bl (tyLe (if b then .list else .tuple) c)) g1:=fun c=>QL (x:=x) (g1:=g1) rfl (by unfold Zx; rw [ty1])
   have is1:∀ c:Ty,mOp1 (Zx c) (mVar 1) [some x,some y] g1=.ok (.bl (tyLe (if b then .list else .tuple) c)) g1:=fun c=>QL (x:=y) (g1:=g1) rfl (by unfold Zx; rw [ty2])
   have ne:∀ c:Ty,Qp (mOp2 pNe (mOp1 (Zx c) (mVar 0)) (mOp1 (Zx c) (mVar 1))) [some x,some y] g1=.ok false g1:=fun c=>QC (Qj (is0 c) (is1 c) (by unfold pNe neT; dsimp only; rw [beq_self_eq_true]; rfl))
   have t1:mOrT (Qp (mOp1 (Zx .list) (mVar 1))) (Qp (mOp1 (Zx .tuple) (mVar 1))) [some x,some y] g1=.ok true g1:=by
    unfold mOrT
    rw [QC (is1 .list),Res.bind_ok,QC (is1 .tuple)]
    cases b <;> rfl
   have e5:mOp2 pEq (mOp1 pLen (mVar 0)) (mOp1 pLen (mVar 1)) [some x,some y] g1=.ok (.bl true) g1:=Qj (x:=.int xs.length) (y:=.int ys.length) (g1:=g1) (g2:=g1) (QL (x:=x) (g1:=g1) rfl (Qds s1)) (QL (x:=y) (g1:=g1) rfl (Qds s2)) (by unfold pEq eqT; dsimp only; rw [hl,beq_self_eq_true])
   unfold YB
   have td:Qp (mOp1 (Zx .dict) (mVar 1)) [some x,some y] g1=.ok false g1:=by rw [QC (is1 .dict)]; cases b <;> rfl
   refine Qh [some x,some y] g1 (iff' g1 td rfl) (Ys (ift g1 t1 (Qh [some x,some y] g1 (iff' g1 (Qg0 (ne .list) (ne .tuple)) rfl) (Q5 ?_))))
   unfold mAnd
   rw [e5,Res.bind_ok]
   dsimp only
   rw [if_pos rfl]
   refine QL c4 ?_
   unfold pAll
   dsimp only
   rw [Ql]
   dsimp only
   rw [QcX]
theorem J8 {g:G} {f:Nat} {ds:List D} (hz:ds.length≤100000) (h:∀ u∈ds,Sm g f u u):Sm g (f+1) (.tup ds) (.tup ds):=.seq _ _ _ false ds ds rfl rfl rfl hz (fun i u v h1 h2=>by
 rw [h1] at h2; cases h2
 exact h u (List.mem_of_getElem? h1))
theorem QiS (g:G) (f:Nat) {w:List Int} (hz:w.length≤100000):Sm g (f+2) (.tup (w.map .int)) (.tup (w.map .int)):=J8 (by rw [List.length_map]; exact hz) fun u hu=>by
 obtain⟨i,_,rfl⟩:=List.mem_map.mp hu
 exact .int _ _
theorem Qk9 (g:G) {t:Tk} (h:TkOk t):Sm g 4 (tkD t) (tkD t):=by
 cases t with
 | one s =>
   refine J8 (by simp) fun u hu=>?_
   rcases List.mem_cons.mp hu with rfl | hu
   ·exact .str _ _
   ·rw [List.mem_singleton.mp hu]; exact .int _ _
 | many w k =>
   refine J8 (by simp) fun u hu=>?_
   rcases List.mem_cons.mp hu with rfl | hu
   ·exact .str _ _
   ·rcases List.mem_cons.mp hu with rfl | hu
    ·exact QiS g 1 (by have:=h.2.2.2.1; omega)
    ·rw [List.mem_singleton.mp hu]; exact .int _ _
theorem QhH (g:G) {ts:List Tk} (h:∀ t∈ts,TkOk t) (hz:ts.length≤1000):Sm g 5 (.tup (ts.map tkD)) (.tup (ts.map tkD)):=J8 (by rw [List.length_map]; omega) fun u hu=>by
 obtain⟨t,ht,rfl⟩:=List.mem_map.mp hu
 exact Qk9 g (h t ht)
theorem Qa3 (g:G) {st:Int} {f:Str} {L R:List Tk} (hL:∀ t∈L,TkL t) (hR:∀ t∈R,TkL t) (zl:L.length≤1000) (zr:R.length≤1000):Sm g 6 (QJ st f L R) (QJ st f L R):=by
 have up:∀ {T:List Tk},(∀ t∈T,TkL t)->∀ t∈T.map Zf,TkOk t:=fun h t ht=>by
  obtain⟨s,hs,rfl⟩:=List.mem_map.mp ht
  exact(h s hs).raise
 refine J8 (by simp) fun u hu=>?_
 rcases List.mem_cons.mp hu with rfl | hu
 ·exact .int _ _
 ·rcases List.mem_cons.mp hu with rfl | hu
  ·exact .str _ _
  ·rcases List.mem_cons.mp hu with rfl | hu
   ·exact QhH g (up hL) (by rw [List.length_map]; exact zl)
   ·rw [List.mem_singleton.mp hu]; exact QhH g (up hR) (by rw [List.length_map]; exact zr)
theorem Qf9 (g:G) {st:Int} {f:Str} {c:Nat} {L R:List Tk} (hc:c≤20) (hL:∀ t∈L,TkOk t) (hR:∀ t∈R,TkOk t) (zl:L.length≤40) (zr:R.length≤40):Sm g 6 (Jr st f c L R) (Jr st f c L R):=by
 have z1:=Zj hc hL
 have z2:=Zj hc hR
 have hM:(Q6 (Qv c L++Qv c R) (-((Qv c L).length:Int))).length≤60000:=Nat.le_trans (JX _ _) (by rw [List.length_append]; omega)
 unfold Jr
 generalize Q6 (Qv c L++Qv c R) (-((Qv c L).length:Int))=M at hM
 refine J8 (by simp) fun u hu=>?_
 rcases List.mem_cons.mp hu with rfl | hu
 ·exact .int _ _
 ·rcases List.mem_cons.mp hu with rfl | hu
  ·exact .int _ _
  ·rw [List.mem_singleton.mp hu]
   refine J8 (by rw [List.length_map]; omega) fun u hu=>?_
   obtain⟨p,_,rfl⟩:=List.mem_map.mp hu
   refine J8 (f:=3) (by simp) fun u hu=>?_
   rcases List.mem_cons.mp hu with rfl | hu
   ·exact .int _ _
   ·rw [List.mem_singleton.mp hu]; exact .int _ _
end L3
end
section
namespace L3
open PySem
theorem isX {n:Nat} {g:G} (h:g[n]?=some (.exc (7,none))) (cs:List Nat):QO [0,1,2,3,4,5,6,7,8,9,10] cs (.ref n) g=.ok (.bl (decide (7∈cs))) g:=by
 unfold QO
 dsimp only
 rw [h]
 dsimp only
 rw [if_pos (by decide)]
theorem isX' {n:Nat} {g:G} {y z:Option D} (h:g[n]?=some (.exc (7,none))) (cs:List Nat):mOp1 (QO [0,1,2,3,4,5,6,7,8,9,10] cs) (mVar 0) [some (.ref n),y,z] g=.ok (.bl (decide (7∈cs))) g:=QL (x:=.ref n) (g1:=g) rfl (isX h cs)
theorem QiT:(Str.ofString "shape" == Str.ofString "move")=false:=by decide +kernel
theorem Qkw {n:Nat} {g:G} (h:g[n]?=some (.exc (7,none))):∃ g',QfT [.ref n,.str (Str.ofString "shape")] g=.ok (.bl true) g'∧Keeps [] g g':=by
 have k1:Keeps [] g (g++[.lst [.bl false,.bl false,.bl false]]):=.push _
 have p1:(g++[GO.lst [.bl false,.bl false,.bl false]])[g.length]?=some (.lst [.bl false,.bl false,.bl false]):=Ql _
 have e1:mOpA newL (Qa (mOp1 (QO [0,1,2,3,4,5,6,7,8,9,10] [1]) (mVar 0)) (Qa (mOp1 (QO [0,1,2,3,4,5,6,7,8,9,10] [2]) (mVar 0)) (Qa (mOp1 (QO [0,1,2,3,4,5,6,7,8,9,10] [3]) (mVar 0)) mNil))) [some (.ref n),some (.str (Str.ofString "shape")),none] g=.ok (.ref g.length) (g++[.lst [.bl false,.bl false,.bl false]]):=Zp (Qd (isX' h _) (Qd (isX' h _) (Qd (isX' h _) rfl))) rfl
 generalize g.length=a at e1 p1
 generalize g++[GO.lst [.bl false,.bl false,.bl false]]=g1 at e1 p1 k1
 have h1:=k1.at' _ _ (by simp) h
 have k2:Keeps [] g1 (g1++[.lst [.bl false,.bl false,.bl false]]):=.push _
 have p2:(g1++[GO.lst [.bl false,.bl false,.bl false]])[g1.length]?=some (.lst [.bl false,.bl false,.bl false]):=Ql _
 have e2:mOpA newL (Qa (mOp1 (QO [0,1,2,3,4,5,6,7,8,9,10] [4]) (mVar 0)) (Qa (mOp1 (QO [0,1,2,3,4,5,6,7,8,9,10] [5]) (mVar 0)) (Qa (mOp1 (QO [0,1,2,3,4,5,6,7,8,9,10] [6]) (mVar 0)) mNil))) [some (.ref n),some (.str (Str.ofString "shape")),some (.ref a)] g1=.ok (.ref g1.length) (g1++[.lst [.bl false,.bl false,.bl false]]):=Zp (Qd (isX' h1 _) (Qd (isX' h1 _) (Qd (isX' h1 _) rfl))) rfl
 generalize g1.length=b at e2 p2
 generalize g1++[GO.lst [.bl false,.bl false,.bl false]]=g2 at e2 p2 k2
 have q2:=Yh (k2.at' _ _ (by simp) p1) p2 (by simp)
 have k3:Keeps [] g2 (g2++[.lst ([.bl false,.bl false,.bl false]++[.bl false,.bl false,.bl false])]):=.push _
 have p3:(g2++[GO.lst ([.bl false,.bl false,.bl false]++[.bl false,.bl false,.bl false])])[g2.length]?=some (.lst ([.bl false,.bl false,.bl false]++[.bl false,.bl false,.bl false])):=Ql _
 generalize g2.length=c at q2 p3
 generalize g2++[GO.lst ([.bl false,.bl false,.bl false]++[.bl false,.bl false,.bl false])]=g3 at q2 p3 k3
 have h3:=k3.at' _ _ (by simp) (k2.at' _ _ (by simp) h1)
 have k4:Keeps [] g3 (g3++[.lst [.bl false,.bl false]]):=.push _
 have p4:(g3++[GO.lst [.bl false,.bl false]])[g3.length]?=some (.lst [.bl false,.bl false]):=Ql _
 have e4:mOpA newL (Qa (mOp1 (QO [0,1,2,3,4,5,6,7,8,9,10] [9]) (mVar 0)) (Qa (mOp1 (QO [0,1,2,3,4,5,6,7,8,9,10] [10]) (mVar 0)) mNil)) [some (.ref n),some (.str (Str.ofString "shape")),some (.ref c)] g3=.ok (.ref g3.length) (g3++[.lst [.bl false,.bl false]]):=Zp (Qd (isX' h3 _) (Qd (isX' h3 _) rfl)) rfl
 generalize g3.length=d at e4 p4
 generalize g3++[GO.lst [.bl false,.bl false]]=g4 at e4 p4 k4
 have q4:=Yh (k4.at' _ _ (by simp) p3) p4 (by simp)
 have k5:Keeps [] g4 (g4++[.lst ([.bl false,.bl false,.bl false]++[.bl false,.bl false,.bl false]++[.bl false,.bl false])]):=.push _
 have p5:(g4++[GO.lst ([.bl false,.bl false,.bl false]++[.bl false,.bl false,.bl false]++[.bl false,.bl false])])[g4.length]?=some (.lst ([.bl false,.bl false,.bl false]++[.bl false,.bl false,.bl false]++[.bl false,.bl false])):=Ql _
 generalize g4.length=e at q4 p5
 generalize g4++[GO.lst ([.bl false,.bl false,.bl false]++[.bl false,.bl false,.bl false]++[.bl false,.bl false])]=g5 at q4 p5 k5
 have h5:=k5.at' _ _ (by simp) (k4.at' _ _ (by simp) h3)
 have t1:Qp (mOp2 (pIn false) (mLit (.bl true)) (mVar 2)) [some (.ref n),some (.str (Str.ofString "shape")),some (.ref e)] g5=.ok false g5:=QC (Qj (x:=.bl true) (y:=.ref e) (g1:=g5) (g2:=g5) rfl rfl (by unfold pIn; rw [QF p5]; rfl))
 have t2:ZG (Qp (mOp1 (QO [0,1,2,3,4,5,6,7,8,9,10] [0,1,2,3,4,5,6,7,8,9,10]) (mVar 0))) [some (.ref n),some (.str (Str.ofString "shape")),some (.ref e)] g5=.ok false g5:=YF (QC (isX' h5 _))
 have u1:mOp2 pEq (mVar 1) (mLit (.str (Str.ofString "shape"))) [some (.ref n),some (.str (Str.ofString "shape")),some (.ref e)] g5=.ok (.bl true) g5:=Qj (x:=.str (Str.ofString "shape")) (y:=.str (Str.ofString "shape")) (g1:=g5) (g2:=g5) rfl rfl (by rw [eq_s,Zq])
 have u2:mOp2 pEq (mVar 1) (mLit (.str (Str.ofString "move"))) [some (.ref n),some (.str (Str.ofString "shape")),some (.ref e)] g5=.ok (.bl false) g5:=Qj (x:=.str (Str.ofString "shape")) (y:=.str (Str.ofString "move")) (g1:=g5) (g2:=g5) rfl rfl (by rw [eq_s,QiT])
 refine⟨g5,Q1 rfl ?_,k1.trans (k2.trans (k3.trans (k4.trans k5)))⟩
 show QfS [some (.ref n),some (.str (Str.ofString "shape")),none] g=_
 unfold QfS
 refine Qh [some (.ref n),some (.str (Str.ofString "shape")),some (.ref a)] g1 (QE e1) ?_
 refine Qh [some (.ref n),some (.str (Str.ofString "shape")),some (.ref c)] g3 (QE (Qj (x:=.ref a) (g1:=g1) rfl e2 q2)) ?_
 refine Qh [some (.ref n),some (.str (Str.ofString "shape")),some (.ref e)] g5 (QE (Qj (x:=.ref c) (g1:=g3) rfl e4 q4)) ?_
 refine Qh _ g5 (iff' g5 (Qg0 t1 t2) rfl) (Q5 (JG (Qj (isX' h5 _) u1 rfl) (Qj (isX' h5 _) u2 rfl)))
theorem JZ {x c:D} {g g':G} (h:mIf (Qp (mOp2 pIs (mVar 1) (mLit .non))) (Zw (Qs Yf (Qa (mVar 0) mNil))) (Zw (Qs Zu (Qa (mVar 0) (Qa (mVar 1) mNil)))) [some x,some c,some .non,none] g=.raise (7,none) [some x,some c,some .non,none] g') (k:Keeps [] g g') :
  ∃ g2,Zc [x,c] g=.ok (.bl true) g2∧Keeps [] g g2:=by
 have k1:Keeps [] g' (g'++[.exc (7,none)]):=.push _
 obtain⟨g2,e2,k2⟩:=Qkw (n:=g'.length) (g:=g'++[.exc (7,none)]) (Ql _)
 refine⟨g2,Q1 rfl ?_,k.trans (k1.trans k2)⟩
 show Jp [some x,some c,none,none] g=_
 unfold Jp
 refine Qh [some x,some c,some .non,none] g rfl (Qh [some x,some c,some (.ref g'.length),none] (g'++[.exc (7,none)]) ?_ (Q5 ?_))
 ·unfold mTry
  rw [h]
  rfl
 ·rw [Qm (ds:=[.ref g'.length,.str (Str.ofString "shape")]) (g':=g'++[.exc (7,none)]) rfl]
  exact e2
noncomputable def Bad (g:G) (x:D):Prop:=∀ g1,Keeps [] g g1->∃ g2,Keeps [] g1 g2∧Q7 [x] g1=.raise (7,none) g2
theorem Qa4 {f:MF} {a:MA} {σ:S3} {ds:List D} {x:Xc} {g g1 g':G} (h:a σ g=.ok ds g1) (h2:f ds g1=.raise x g'):Qs f a σ g=.raise x g':=(Qm h).trans h2
theorem QiU {g g1:G} {x:D} (h:Bad g x) (k:Keeps [] g g1):∃ g2,Zc [x,.non] g1=.ok (.bl true) g2∧Keeps [] g1 g2:=by
 obtain⟨g2,k2,e⟩:=h g1 k
 have r:Yf [x] g1=.raise (7,none) g2:=Ze rfl (Zv (YC (Qa4 (ds:=[x]) (g1:=g1) rfl e)))
 exact JZ (ift g1 rfl (YC (Qa4 (ds:=[x]) (g1:=g1) rfl r))) k2
theorem QiV {g g1:G} {x:D} (h:Bad g x) (k:Keeps [] g g1) (c:Int):∃ g2,Zc [x,.int c] g1=.ok (.bl true) g2∧Keeps [] g1 g2:=by
 obtain⟨g2,k2,e⟩:=h g1 k
 have r:Zu [x,.int c] g1=.raise (7,none) g2:=Ze rfl (Zv (YC (Qa4 (ds:=[x]) (g1:=g1) rfl e)))
 exact JZ (iff' g1 rfl (YC (Qa4 (ds:=[x,.int c]) (g1:=g1) rfl r))) k2
theorem neg_int {st:Int} {f:Str} {L R:D} {g:G} {b b':Bool} {tl tr:List Tk} (h0:0≤st) (hf:lrS f) (hL:Qr g L=some (b,tl.map tkD)) (hR:Qr g R=some (b',tr.map tkD)) (ol:∀ t∈tl,TkOk t) (or':∀ t∈tr,TkOk t) (zl:tl.length≤40) (zr:tr.length≤40) {c:Int} (hc:c<0) :
  ∃ g2,Zc [.tup [.int st,.str f,L,R],.int c] g=.ok (.bl true) g2∧Keeps [] g g2:=by
 obtain⟨g1,e1,k1⟩:=Qce h0 hf hL hR ol or' (by omega) (by omega)
 have t:ZG (Qp (Qs Qn (Qa (mVar 1) mNil))) [some (.tup [.int st,.str f,L,R]),some (.int c),none,none,none] g1=.ok true g1:=by
  unfold ZG
  rw [QC (b:=false) (g1:=g1) (by rw [Qm (ds:=[.int c]) (g':=g1) rfl,JF,decide_eq_false (by omega)])]; rfl
 have r:Zu [.tup [.int st,.str f,L,R],.int c] g=.raise (7,none) g1:=by
  refine Ze (σ:=[some (.tup [.int st,.str f,L,R]),some (.int c),none,none,none]) rfl ?_
  show Yq [some (.tup [.int st,.str f,L,R]),some (.int c),none,none,none] g=_
  unfold Yq
  exact Qh _ g1 (Z7 (by rw [Qm (ds:=[.tup [.int st,.str f,L,R]]) (g':=g) rfl]; exact e1)) (Zv (ift g1 t rfl))
 exact JZ (iff' g rfl (YC (Qa4 (ds:=[.tup [.int st,.str f,L,R],.int c]) (g1:=g) rfl r))) k1
end L3
end
section
namespace L3
open PySem
theorem TokR.uniq {g:G} {d:D} (h1:TokR g d true) (h2:TokR g d false):False:=by
 obtain⟨a,e1,_⟩:=h1 g .refl
 obtain⟨b,e2,_⟩:=h2 g .refl
 rw [e1] at e2; cases e2
open Classical in
theorem Qga {st:Int} {f:Str} {L R:D} {g:G} {b b':Bool} {ds es:List D} (h0:0≤st) (hf:lrS f) (hL:Qr g L=some (b,ds)) (hR:Qr g R=some (b',es)) (hz:ds.length≤1000) (hz':es.length≤1000) (tL:∀ d∈ds,TokR g d true∨TokR g d false) (tR:∀ d∈es,TokR g d true∨TokR g d false) (hb:∃ d,(d∈ds∨d∈es)∧TokR g d false):Bad g (.tup [.int st,.str f,L,R]):=fun g1 k1=>by
 have ok:∀ d,(TokR g d true∨TokR g d false)->TokR g1 d (decide (TokR g d true)):=fun d h=>by
  rcases h with h | h
  ·rw [decide_eq_true h]; exact h.mono k1
  ·rw [decide_eq_false fun z=>z.uniq h]; exact h.mono k1
 obtain⟨g2,k2,h⟩:=Jg (fun d=>decide (TokR g d true)) h0 hf (Qf hL k1) (Qf hR k1) hz hz' (fun d hd=>ok d (tL d hd)) (fun d hd=>ok d (tR d hd))
 rcases h with⟨a1,a2,_⟩ | ⟨_,e⟩
 ·obtain⟨d,hd,hf⟩:=hb
  rcases hd with hd | hd
  ·exact absurd hf fun z=>(of_decide_eq_true (List.all_eq_true.mp a1 d hd)).uniq z
  ·exact absurd hf fun z=>(of_decide_eq_true (List.all_eq_true.mp a2 d hd)).uniq z
 ·exact⟨g2,k2,e⟩
theorem QhI {x f L R:D} {g:G} (h:∀ g1,Qn [x] g1=.ok (.bl false) g1):Bad g (.tup [x,f,L,R]):=fun g1 _=>by
 refine⟨g1,.refl,Ze (σ:=[some (.tup [x,f,L,R])]) rfl ?_⟩
 show QM [some (.tup [x,f,L,R])] g1=_
 unfold QM
 have t:ZG (Qp (Qs Qn (Qa (mOp2 pIx (mVar 0) (mLit (.int 0))) mNil))) [some (.tup [x,f,L,R])] g1=.ok true g1:=by
  unfold ZG
  rw [QC (b:=false) (g1:=g1) (by rw [Qm (ds:=[x]) (g':=g1) rfl]; exact h g1)]; rfl
 exact Qh [some (.tup [x,f,L,R])] g1 rfl (Zv (ift g1 t rfl))
theorem Qg8 {st:Int} {f L R:D} {g:G} (h0:0≤st) (hx:JK f=true) (hl:eqF (.str (Str.ofString "l")) f=false) (hr:eqF (.str (Str.ofString "r")) f=false):Bad g (.tup [.int st,f,L,R]):=fun g1 _=>by
 refine⟨g1,.refl,Ze (σ:=[some (.tup [.int st,f,L,R])]) rfl ?_⟩
 show QM [some (.tup [.int st,f,L,R])] g1=_
 unfold QM
 have t2:Qp (Qs Qn (Qa (mOp2 pIx (mVar 0) (mLit (.int 0))) mNil)) [some (.tup [.int st,f,L,R])] g1=.ok true g1:=QC (by rw [Qm (ds:=[.int st]) (g':=g1) rfl,JF,decide_eq_true h0])
 have t3:=Qkt (g:=g1) hx
 rw [hl,hr] at t3
 exact Qh [some (.tup [.int st,f,L,R])] g1 rfl (Qh [some (.tup [.int st,f,L,R])] g1 (iff' g1 (YF t2) rfl) (Zv (ift g1 (QC (Qj (x:=f) (g1:=g1) (g2:=g1) rfl rfl t3)) rfl)))
theorem Qg9 {st:Int} {f:Str} {R:D} {g:G} (h0:0≤st) (hf:lrS f):Bad g (.tup [.int st,.str f,.non,R]):=fun g1 _=>by
 have c1:Qs Qq (Qa (mOp2 pIx (mVar 0) (mLit (.int 2))) mNil) [some (.tup [.int st,.str f,.non,R])] g1=Qq [.non] g1:=Qm rfl
 have e:Qq [.non] g1=.raise (7,none) g1:=rfl
 exact⟨g1,.refl,Ze (σ:=[some (.tup [.int st,.str f,.non,R])]) rfl (Yt h0 (Qf0 hf g1) _ (Zv (YC (c1.trans e))))⟩
theorem Qgb {st:Int} {f:Str} {L:D} {g:G} {b:Bool} {ts:List Tk} {s:Str} (h0:0≤st) (hf:lrS f) (hL:Qr g L=some (b,ts.map tkD)) (ol:∀ t∈ts,TkOk t) (zl:ts.length≤60):Bad g (.tup [.int st,.str f,L,.str s]):=fun g1 k1=>by
 have c1:Qs Qq (Qa (mOp2 pIx (mVar 0) (mLit (.int 2))) mNil) [some (.tup [.int st,.str f,L,.str s])] g1=Qq [L] g1:=Qm rfl
 obtain⟨g2,k2,h⟩:=Z8 TkF (Qf hL k1) (by rw [List.length_map]; omega) (fun d hd=>by
  obtain⟨t,ht,rfl⟩:=List.mem_map.mp hd
  exact Qat (ol t ht) g1)
 rcases h with⟨_,e1⟩ | ⟨z,_⟩
 ·have c2:Qs Qq (Qa (mOp2 pIx (mVar 0) (mLit (.int 3))) mNil) [some (.tup [.int st,.str f,L,.str s])] g2=Qq [.str s] g2:=Qm rfl
  have e:Qq [.str s] g2=.raise (7,none) g2:=rfl
  exact⟨g2,k2,Ze (σ:=[some (.tup [.int st,.str f,L,.str s])]) rfl (Yt h0 (Qf0 hf g1) _ (Qh _ g2 (Z7 (c1.trans e1)) (YC (c2.trans e))))⟩
 ·rw [Qdq] at z; cases z
theorem Qgc {x y z:D} {g:G}:Bad g (.tup [x,y,z]):=fun g1 _=>⟨g1,.refl,rfl⟩
theorem Qha {x y z u v:D} {g:G}:Bad g (.tup [x,y,z,u,v]):=fun g1 _=>⟨g1,.refl,rfl⟩
theorem Qhb {g:G}:Bad g .non:=fun g1 _=>⟨g1,.refl,rfl⟩
theorem Qcg {n:Nat} {ds:List D} {g:G} (h:g[n]?=some (.lst ds)):Zx .tuple (.ref n) g=.ok (.bl false) g:=by
 unfold Zx tyOf
 dsimp only
 rw [h]
 rfl
theorem Qhc {n:Nat} {ds:List D} {g:G} (h:g[n]?=some (.lst ds)):Bad g (.ref n):=fun g1 k=>by
 refine⟨g1,.refl,Ze (σ:=[some (.ref n)]) rfl ?_⟩
 show QM [some (.ref n)] g1=_
 unfold QM
 refine Zv (ift g1 ?_ rfl)
 unfold mOrT ZG
 rw [QC (QL (x:=.ref n) (g1:=g1) rfl (Qcg (k.at' _ _ (by simp) h)))]
 rfl
theorem Qla:(Str.ofString "two" == Str.ofString "one")=false:=by decide +kernel
theorem Qhd {n:Nat} {ds:List D} {g:G} (h:g[n]?=some (.lst ds)):TokR g (.ref n) false:=fun g1 k=>by
 refine⟨g1,Q1 rfl ?_,.refl⟩
 show ZJ [some (.ref n)] g1=_
 unfold ZJ
 refine Ys (ift g1 ?_ rfl)
 unfold ZG
 rw [QC (QL (x:=.ref n) (g1:=g1) rfl (Qcg (k.at' _ _ (by simp) h)))]
 rfl
theorem Qhe {x:Str} {n:Nat} {ds:List D} {j:Int} {g:G} (h:g[n]?=some (.lst ds)):TokR g (.tup [.str x,.ref n,.int j]) false:=by
 have:=Qas x (.ref n) j false g fun g1 k=>⟨g1,Q1 rfl (Q5 (Qd1 (QL (x:=.ref n) (g1:=g1) rfl (Qcg (k.at' _ _ (by simp) h))))),.refl⟩
 rw [Bool.false_and,Bool.and_false] at this
 exact this
noncomputable def odd7 (p:Nat):List D:=[.tup [.str (Str.ofString "one")],.tup [.str (Str.ofString "one"),.int (-1)],.tup [.str (Str.ofString "many"),.tup [],.int 0],.tup [.str (Str.ofString "many"),.tup [.int 0],.int (-1)],.tup [.str (Str.ofString "many"),.ref p,.int 0],.tup [.str (Str.ofString "two"),.int 0],.non]
noncomputable def odd8 (p:Nat):List D:=[.tup [.str (Str.ofString "many"),.tup [.int 0]],.tup [.str (Str.ofString "one"),.str (Str.ofString "0")],.tup [.str (Str.ofString "many"),.tup [.int 0,.int (-1)],.int 1],.ref p,.tup [],.str (Str.ofString "one"),.tup [.str (Str.ofString "one"),.int 0,.int 0],.int 5]
theorem QiW {p p':Nat} {xs ys:List D} {g:G} (h:g[p]?=some (.lst xs)) (h':g[p']?=some (.lst ys)):∀ d∈odd7 p++odd8 p',TokR g d false:=by
 have r:∀(d:D),(∀ g1,Zt [d] g1=.ok (.bl false) g1)->TokR g d false:=fun d h g1 _=>⟨g1,h g1,.refl⟩
 have w:∀(v:List Int) (j:Int),v.length≤1000->(((decide (v≠[]) && v.all fun i=>decide (0≤i)) && decide (0≤j))=false)->TokR g (.tup [.str (Str.ofString "many"),.tup (v.map .int),.int j]) false:=fun v j hv hb=>by
  have:=Qas (Str.ofString "many") (.tup (v.map .int)) j _ g fun g1 _=>QfZ v g1 hv
  rw [hb,Bool.and_false] at this
  exact this
 have o1:=QaV (Str.ofString "one") (.int (-1)) false g fun _=>rfl
 have o5:=QaV (Str.ofString "two") (.int 0) true g fun _=>rfl
 have o7:=QaV (Str.ofString "many") (.tup [.int 0]) false g fun _=>rfl
 have o8:=QaV (Str.ofString "one") (.str (Str.ofString "0")) false g fun _=>rfl
 have o13:=Qas (Str.ofString "one") (.int 0) 0 false g fun g1 _=>⟨g1,rfl,.refl⟩
 rw [Bool.and_false] at o1 o7 o8
 rw [Qla,Bool.false_and] at o5
 rw [Bool.false_and,Bool.and_false] at o13
 intro d hd
 rcases List.mem_append.mp hd with hd | hd
 ·rcases List.mem_cons.mp hd with rfl | hd
  ·exact r _ fun _=>rfl
  rcases List.mem_cons.mp hd with rfl | hd
  ·exact o1
  rcases List.mem_cons.mp hd with rfl | hd
  ·exact w [] 0 (by simp) rfl
  rcases List.mem_cons.mp hd with rfl | hd
  ·exact w [0] (-1) (by simp) rfl
  rcases List.mem_cons.mp hd with rfl | hd
  ·exact Qhe h
  rcases List.mem_cons.mp hd with rfl | hd
  ·exact o5
  ·rw [List.mem_singleton.mp hd]; exact r _ fun _=>rfl
 ·rcases List.mem_cons.mp hd with rfl | hd
  ·exact o7
  rcases List.mem_cons.mp hd with rfl | hd
  ·exact o8
  rcases List.mem_cons.mp hd with rfl | hd
  ·exact w [0,-1] 1 (by simp) rfl
  rcases List.mem_cons.mp hd with rfl | hd
  ·exact Qhd h'
  rcases List.mem_cons.mp hd with rfl | hd
  ·exact r _ fun _=>rfl
  rcases List.mem_cons.mp hd with rfl | hd
  ·exact r _ fun _=>rfl
  rcases List.mem_cons.mp hd with rfl | hd
  ·exact o13
  ·rw [List.mem_singleton.mp hd]; exact r _ fun _=>rfl
end L3
end
section
namespace L3
open PySem
theorem Qav {g:G} {x:D} {b:Bool} {xs:List D} (h:Qr g x=some (b,xs)):Qaa x g=.ok (.ref g.length) (g++[.lst xs]):=by
 cases x with
 | ref n =>
  unfold Qr at h
  unfold Qaa
  dsimp only at h ⊢
  cases hg:g[n]? with
  | none=>rw [hg] at h; cases h
  | some o =>
   rw [hg] at h
   cases o with
   | lst ds=>cases h; rfl
   | _=>cases h
 | tup ds=>cases h; rfl
 | fl ds=>cases h; rfl
 | _=>cases h
theorem QiX {g:G} {x:D} {b:Bool} {xs:List D} (h:Qr g x=some (b,xs)) (lo hi:Option Int):∃ y b' g1,QcC x lo hi g=.ok y g1∧Keeps [] g g1∧Qr g1 y=some (b',cutD xs lo hi):=by
 cases x with
 | ref n =>
  unfold Qr at h
  dsimp only at h
  cases hg:g[n]? with
  | none=>rw [hg] at h; cases h
  | some o =>
   rw [hg] at h
   cases o with
   | lst ds =>
    cases h
    refine⟨.ref g.length,true,g++[.lst (cutD xs lo hi)],?_,.push _,QF (Ql _)⟩
    unfold QcC
    dsimp only
    rw [hg]
   | _=>cases h
 | tup ds=>cases h; exact⟨.tup (cutD xs lo hi),false,g,rfl,.refl,rfl⟩
 | fl ds=>cases h; exact⟨.ref g.length,true,g++[.lst (cutD xs lo hi)],rfl,.push _,QF (Ql _)⟩
 | _=>cases h
theorem Qeb {g:G} {x:D} {b:Bool} {xs:List D} {σ:S3} {i:Nat} {lo hi:MO} {l u:Option Int} (h:Qr g x=some (b,xs)) (hv:σ[i]?=some (some x)) (hl:∀ h,lo σ h=.ok l h) (hu:∀ h,hi σ h=.ok u h):∃ z g',mOp1 Qaa (ZA (mVar i) lo hi) σ g=.ok (.ref z) g'∧Keeps [] g g'∧g'[z]?=some (.lst (cutD xs l u)):=by
 obtain⟨y,b',g1,e,k,s⟩:=QiX h l u
 refine⟨g1.length,g1++[.lst (cutD xs l u)],QL (x:=y) (g1:=g1) ?_ (Qav s),k.trans (.push _),Ql _⟩
 unfold ZA
 rw [show mVar i σ g=.ok x g by unfold mVar; rw [hv],Res.bind_ok,hl,Res.bind_ok,hu,Res.bind_ok,e]
theorem pick {α:Type} {xs:List α} {i:Int} (h0:0≤i) (h1:i<xs.length):∃ d,xs[i.toNat]?=some d∧d∈xs:=⟨xs[i.toNat]'(by omega),by simp,List.getElem_mem _⟩
theorem Qby (s:Str) (h:s=Str.ofString "" ∨ s=Str.ofString "x" ∨ s=Str.ofString "rl"):(Str.ofString "l" == s)=false∧(Str.ofString "r" == s)=false:=by
 rcases h with rfl | rfl | rfl <;> exact⟨by decide +kernel,by decide +kernel⟩
set_option maxHeartbeats 8000000 in
theorem QiY {st q:Int} {f:Str} {L R:D} {g:G} {b b':Bool} {tl tr:List Tk} (q0:0≤q) (h0:0≤st) (hf:lrS f) (hL:Qr g L=some (b,tl.map tkD)) (hR:Qr g R=some (b',tr.map tkD)) (ol:∀ t∈tl,TkOk t) (or':∀ t∈tr,TkOk t) (zl:tl.length≤40) (zr:tr.length≤40) :
  ∃ x g',ZW [.int q,.tup [.int st,.str f,L,R]] g=.ok x g'∧Keeps [] g g'∧Bad g' x:=by
 -- the fifteen
 have k1:Keeps [] g (g++[.lst [.int 0]]):=.push _
 have p1:(g++[GO.lst [.int 0]])[g.length]?=some (.lst [.int 0]):=Ql _
 have e1:mOpA newL (Qa (mOpA pTup (Qa (mLit (.str (Str.ofString "one"))) mNil)) (Qa (mOpA pTup (Qa (mLit (.str (Str.ofString "one"))) (Qa (mOp1 pNeg (mLit (.int 1))) mNil))) (Qa (mOpA pTup (Qa (mLit (.str (Str.ofString "many"))) (Qa (mOpA pTup mNil) (Qa (mLit (.int 0)) mNil)))) (Qa (mOpA pTup (Qa (mLit (.str (Str.ofString "many"))) (Qa (mOpA pTup (Qa (mLit (.int 0)) mNil)) (Qa (mOp1 pNeg (mLit (.int 1))) mNil)))) (Qa (mOpA pTup (Qa (mLit (.str (Str.ofString "many"))) (Qa (mOpA newL (Qa (mLit (.int 0)) mNil)) (Qa (mLit (.int 0)) mNil)))) (Qa (mOpA pTup (Qa (mLit (.str (Str.ofString "two"))) (Qa (mLit (.int 0)) mNil))) (Qa (mLit .non) mNil))))))) [some (.int q),some (.tup [.int st,.str f,L,R]),some (.int st),some (.str f),some L,some R,none,none,none] g=.ok (.ref (g++[GO.lst [.int 0]]).length) ((g++[.lst [.int 0]])++[.lst (odd7 g.length)]):=rfl
 generalize g.length=a at e1 p1
 generalize g++[GO.lst [.int 0]]=g1 at e1 p1 k1
 have k2:Keeps [] g1 (g1++[.lst (odd7 a)]):=.push _
 have p2:(g1++[GO.lst (odd7 a)])[g1.length]?=some (.lst (odd7 a)):=Ql _
 generalize g1.length=n7 at e1 p2
 generalize g1++[GO.lst (odd7 a)]=g2 at e1 p2 k2
 have k3:Keeps [] g2 (g2++[.lst [.str (Str.ofString "one"),.int 0]]):=.push _
 have p3:(g2++[GO.lst [.str (Str.ofString "one"),.int 0]])[g2.length]?=some (.lst [.str (Str.ofString "one"),.int 0]):=Ql _
 have e3:mOpA newL (Qa (mOpA pTup (Qa (mLit (.str (Str.ofString "many"))) (Qa (mOpA pTup (Qa (mLit (.int 0)) mNil)) mNil))) (Qa (mOpA pTup (Qa (mLit (.str (Str.ofString "one"))) (Qa (mLit (.str (Str.ofString "0"))) mNil))) (Qa (mOpA pTup (Qa (mLit (.str (Str.ofString "many"))) (Qa (mOpA pTup (Qa (mLit (.int 0)) (Qa (mOp1 pNeg (mLit (.int 1))) mNil))) (Qa (mLit (.int 1)) mNil)))) (Qa (mOpA newL (Qa (mLit (.str (Str.ofString "one"))) (Qa (mLit (.int 0)) mNil))) (Qa (mOpA pTup mNil) (Qa (mLit (.str (Str.ofString "one"))) (Qa (mOpA pTup (Qa (mLit (.str (Str.ofString "one"))) (Qa (mLit (.int 0)) (Qa (mLit (.int 0)) mNil)))) (Qa (mLit (.int 5)) mNil)))))))) [some (.int q),some (.tup [.int st,.str f,L,R]),some (.int st),some (.str f),some L,some R,some (.ref n7),none,none] g2=.ok (.ref (g2++[GO.lst [.str (Str.ofString "one"),.int 0]]).length) ((g2++[.lst [.str (Str.ofString "one"),.int 0]])++[.lst (odd8 g2.length)]):=rfl
 generalize g2.length=c at e3 p3
 generalize g2++[GO.lst [.str (Str.ofString "one"),.int 0]]=g3 at e3 p3 k3
 have k4:Keeps [] g3 (g3++[.lst (odd8 c)]):=.push _
 have p4:(g3++[GO.lst (odd8 c)])[g3.length]?=some (.lst (odd8 c)):=Ql _
 generalize g3.length=n8 at e3 p4
 generalize g3++[GO.lst (odd8 c)]=g4 at e3 p4 k4
 have q4:=Yh (k4.at' _ _ (by simp) (k3.at' _ _ (by simp) p2)) p4 (by show 7+8≤100000; decide)
 have k5:Keeps [] g4 (g4++[.lst (odd7 a++odd8 c)]):=.push _
 have p5:(g4++[GO.lst (odd7 a++odd8 c)])[g4.length]?=some (.lst (odd7 a++odd8 c)):=Ql _
 generalize g4.length=n15 at q4 p5
 generalize g4++[GO.lst (odd7 a++odd8 c)]=g5 at q4 p5 k5
 have kk:Keeps [] g g5:=k1.trans (k2.trans (k3.trans (k4.trans k5)))
 have oall:=QiW (k5.at' _ _ (by simp) (k4.at' _ _ (by simp) (k3.at' _ _ (by simp) (k2.at' _ _ (by simp) p1)))) (k5.at' _ _ (by simp) (k4.at' _ _ (by simp) p3))
 have hL5:=Qf hL kk
 have hR5:=Qf hR kk
 clear k1 k2 k3 k4 k5 p1 p2 p3 p4
 obtain⟨tk,tk1,tk2⟩:=pick (xs:=odd7 a++odd8 c) (i:=q / 9 % 15) (Int.emod_nonneg _ (by decide)) (by show q / 9 % 15<((15:Nat):Int); omega)
 have tkF:=oall tk tk2
 have e6:mOp2 pIx (mVar 6) (mOp2 pMod (mOp2 QK (mVar 0) (mLit (.int 9))) (mLit (.int 15))) [some (.int q),some (.tup [.int st,.str f,L,R]),some (.int st),some (.str f),some L,some R,some (.ref n15),none,none] g5=.ok tk g5:=Qj (x:=.ref n15) (y:=.int (q / 9 % 15)) (g1:=g5) (g2:=g5) rfl (Qj (g1:=g5) (g2:=g5) (Qj (g1:=g5) (g2:=g5) rfl rfl (divP (by decide) (by decide))) rfl (modP (by decide))) (QcT p5 (Int.emod_nonneg _ (by decide)) tk1)
 have e7:mOp2 pMod (mOp2 QK (mVar 0) (mLit (.int 135))) (mOp2 pAdd (mOp1 pLen (mVar 4)) (mLit (.int 1))) [some (.int q),some (.tup [.int st,.str f,L,R]),some (.int st),some (.str f),some L,some R,some (.ref n15),some tk,none] g5=.ok (.int (q / 135 % ((tl.length:Int)+1))) g5:=Qj (x:=.int (q / 135)) (y:=.int ((tl.length:Int)+1)) (g1:=g5) (g2:=g5) (Qj (g1:=g5) (g2:=g5) rfl rfl (divP (by decide) (by decide))) (Qj (x:=.int tl.length) (y:=.int 1) (g1:=g5) (g2:=g5) (QL (x:=L) (g1:=g5) rfl (by rw [Qds hL5,List.length_map])) rfl rfl) (modP (by omega))
 generalize hsp:q / 135 % ((tl.length:Int)+1)=sp at e7
 have hq:mOp2 pMod (mVar 0) (mLit (.int 9)) [some (.int q),some (.tup [.int st,.str f,L,R]),some (.int st),some (.str f),some L,some R,some (.ref n15),some tk,some (.int sp)] g5=.ok (.int (q % 9)) g5:=Qj rfl rfl (modP (by decide))
 have hq4:∀ h,mOp2 pMod (mOp2 QK (mVar 0) (mLit (.int 9))) (mLit (.int 4)) [some (.int q),some (.tup [.int st,.str f,L,R]),some (.int st),some (.str f),some L,some R,some (.ref n15),some tk,some (.int sp)] h=.ok (.int (q / 9 % 4)) h:=fun h=>Qj (g1:=h) (g2:=h) (Qj (g1:=h) (g2:=h) rfl rfl (divP (by decide) (by decide))) rfl (modP (by decide))
 have tst:∀ v:Int,Qp (mOp2 pEq (mOp2 pMod (mVar 0) (mLit (.int 9))) (mLit (.int v))) [some (.int q),some (.tup [.int st,.str f,L,R]),some (.int st),some (.str f),some L,some R,some (.ref n15),some tk,some (.int sp)] g5=.ok (q % 9 == v) g5:=fun v=>QC (Qj hq rfl rfl)
 have tt:∀ {v:Int} {A:MS} {Q:Out},q % 9=v->A [some (.int q),some (.tup [.int st,.str f,L,R]),some (.int st),some (.str f),some L,some R,some (.ref n15),some tk,some (.int sp)] g5=Q->mIf (Qp (mOp2 pEq (mOp2 pMod (mVar 0) (mLit (.int 9))) (mLit (.int v)))) A Q9 [some (.int q),some (.tup [.int st,.str f,L,R]),some (.int st),some (.str f),some L,some R,some (.ref n15),some tk,some (.int sp)] g5=Q:=fun {v A Q} hv hA=>by
  have:=tst v
  rw [hv,beq_self_eq_true] at this
  exact ift g5 this hA
 have ff:∀ {v:Int} {A:MS},q % 9≠v->mIf (Qp (mOp2 pEq (mOp2 pMod (mVar 0) (mLit (.int 9))) (mLit (.int v)))) A Q9 [some (.int q),some (.tup [.int st,.str f,L,R]),some (.int st),some (.str f),some L,some R,some (.ref n15),some tk,some (.int sp)] g5=.nx [some (.int q),some (.tup [.int st,.str f,L,R]),some (.int st),some (.str f),some L,some R,some (.ref n15),some tk,some (.int sp)] g5:=fun {v A} hv=>by
  have:=tst v
  rw [beq_false_of_ne hv] at this
  exact iff' g5 this rfl
 have fin:∀(x:D) (g':G),Keeps [] g5 g'->Bad g' x->(∀ T,T=JD->T [some (.int q),some (.tup [.int st,.str f,L,R]),none,none,none,none,none,none,none] g=.rt x g')->∃ x g',ZW [.int q,.tup [.int st,.str f,L,R]] g=.ok x g'∧Keeps [] g g'∧Bad g' x:=fun x g' k hb he=>⟨x,g',Q1 rfl (he _ rfl),kk.trans k,hb⟩
 have head:∀ {T:MS} {Q:Out},T [some (.int q),some (.tup [.int st,.str f,L,R]),some (.int st),some (.str f),some L,some R,some (.ref n15),some tk,some (.int sp)] g5=Q->mSeq (mAsg (JJ [(gSet 2),(gSet 3),(gSet 4),(gSet 5)]) (mVar 1)) (mSeq (mAsg (gSet 6) (mOpA newL (Qa (mOpA pTup (Qa (mLit (.str (Str.ofString "one"))) mNil)) (Qa (mOpA pTup (Qa (mLit (.str (Str.ofString "one"))) (Qa (mOp1 pNeg (mLit (.int 1))) mNil))) (Qa (mOpA pTup (Qa (mLit (.str (Str.ofString "many"))) (Qa (mOpA pTup mNil) (Qa (mLit (.int 0)) mNil)))) (Qa (mOpA pTup (Qa (mLit (.str (Str.ofString "many"))) (Qa (mOpA pTup (Qa (mLit (.int 0)) mNil)) (Qa (mOp1 pNeg (mLit (.int 1))) mNil)))) (Qa (mOpA pTup (Qa (mLit (.str (Str.ofString "many"))) (Qa (mOpA newL (Qa (mLit (.int 0)) mNil)) (Qa (mLit (.int 0)) mNil)))) (Qa (mOpA pTup (Qa (mLit (.str (Str.ofString "two"))) (Qa (mLit (.int 0)) mNil))) (Qa (mLit .non) mNil)))))))))
   (mSeq (mAsg (gSet 6) (mOp2 pAdd (mVar 6) (mOpA newL (Qa (mOpA pTup (Qa (mLit (.str (Str.ofString "many"))) (Qa (mOpA pTup (Qa (mLit (.int 0)) mNil)) mNil))) (Qa (mOpA pTup (Qa (mLit (.str (Str.ofString "one"))) (Qa (mLit (.str (Str.ofString "0"))) mNil))) (Qa (mOpA pTup (Qa (mLit (.str (Str.ofString "many"))) (Qa (mOpA pTup (Qa (mLit (.int 0)) (Qa (mOp1 pNeg (mLit (.int 1))) mNil))) (Qa (mLit (.int 1)) mNil)))) (Qa (mOpA newL (Qa (mLit (.str (Str.ofString "one"))) (Qa (mLit (.int 0)) mNil))) (Qa (mOpA pTup mNil) (Qa (mLit (.str (Str.ofString "one"))) (Qa (mOpA pTup (Qa (mLit (.str (Str.ofString "one"))) (Qa (mLit (.int 0)) (Qa (mLit (.int 0)) mNil)))) (Qa (mLit (.int 5)) mNil)))))))))))
   (mSeq (mAsg (gSet 7) (mOp2 pIx (mVar 6) (mOp2 pMod (mOp2 QK (mVar 0) (mLit (.int 9))) (mLit (.int 15)))))
   (mSeq (mAsg (gSet 8) (mOp2 pMod (mOp2 QK (mVar 0) (mLit (.int 135))) (mOp2 pAdd (mOp1 pLen (mVar 4)) (mLit (.int 1))))) T)))) [some (.int q),some (.tup [.int st,.str f,L,R]),none,none,none,none,none,none,none] g=Q:=fun {T Q} hT =>
  Qh [some (.int q),some (.tup [.int st,.str f,L,R]),some (.int st),some (.str f),some L,some R,none,none,none] g rfl (Qh [some (.int q),some (.tup [.int st,.str f,L,R]),some (.int st),some (.str f),some L,some R,some (.ref n7),none,none] g2 (QE e1) (Qh [some (.int q),some (.tup [.int st,.str f,L,R]),some (.int st),some (.str f),some L,some R,some (.ref n15),none,none] g5 (QE (Qj (x:=.ref n7) (g1:=g2) rfl e3 q4)) (Qh [some (.int q),some (.tup [.int st,.str f,L,R]),some (.int st),some (.str f),some L,some R,some (.ref n15),some tk,none] g5 (QE e6) (Qh _ g5 (QE e7) hT))))
 have gl:∀ {ts:List Tk},(∀ t∈ts,TkOk t)->∀ {g':G} (d:D),d∈ts.map tkD->TokR g' d true:=by
  intro ts h g' d hd
  obtain⟨t,ht,rfl⟩:=List.mem_map.mp hd
  exact Qat (h t ht) g'
 by_cases c0:q % 9=0
 ·exact fin (.tup [.int (-1),.str f,L,R]) g5 .refl (QhI fun _=>rfl) fun T hT=>by subst hT; exact head (Ys (tt c0 rfl))
 by_cases c1:q % 9=1
 ·have kn:Keeps [] g5 (g5++[.lst [.str (Str.ofString ""),.str (Str.ofString "x"),.str (Str.ofString "rl"),.non]]):=.push _
  have pn:(g5++[GO.lst [.str (Str.ofString ""),.str (Str.ofString "x"),.str (Str.ofString "rl"),.non]])[g5.length]?=some (.lst [.str (Str.ofString ""),.str (Str.ofString "x"),.str (Str.ofString "rl"),.non]):=Ql _
  obtain⟨d,d1,d2⟩:=pick (xs:=[D.str (Str.ofString ""),.str (Str.ofString "x"),.str (Str.ofString "rl"),.non]) (i:=q / 9 % 4) (Int.emod_nonneg _ (by decide)) (by show q / 9 % 4<((4:Nat):Int); omega)
  have hb:JK d=true∧eqF (.str (Str.ofString "l")) d=false∧eqF (.str (Str.ofString "r")) d=false:=by
   rcases List.mem_cons.mp d2 with rfl | d2
   ·exact⟨rfl,(Qby _ (.inl rfl)).1,(Qby _ (.inl rfl)).2⟩
   rcases List.mem_cons.mp d2 with rfl | d2
   ·exact⟨rfl,(Qby _ (.inr (.inl rfl))).1,(Qby _ (.inr (.inl rfl))).2⟩
   rcases List.mem_cons.mp d2 with rfl | d2
   ·exact⟨rfl,(Qby _ (.inr (.inr rfl))).1,(Qby _ (.inr (.inr rfl))).2⟩
   ·rw [List.mem_singleton.mp d2]; exact⟨rfl,rfl,rfl⟩
  exact fin (.tup [.int st,d,L,R]) _ kn (Qg8 h0 hb.1 hb.2.1 hb.2.2) fun T hT=>by
   subst hT
   exact head (Qh _ g5 (ff c0) (Ys (tt c1 (Q5 (Zp (Qd (g1:=g5) rfl (Qd (Qj (x:=.ref g5.length) rfl (hq4 _) (QcT pn (Int.emod_nonneg _ (by decide)) d1)) rfl)) rfl)))))
 by_cases c2:q % 9=2
 ·exact fin (.tup [.int st,.str f,.non,R]) g5 .refl (Qg9 h0 hf) fun T hT=>by subst hT; exact head (Qh _ g5 (ff c0) (Qh _ g5 (ff c1) (Ys (tt c2 rfl))))
 by_cases c3:q % 9=3
 ·have ka:Keeps [] g5 (g5++[.lst [.int st,.str f,L,R]]):=.push _
  have pa:(g5++[GO.lst [.int st,.str f,L,R]])[g5.length]?=some (.lst [.int st,.str f,L,R]):=Ql _
  have en:mOpA newL (Qa (mOpA pTup (Qa (mVar 2) (Qa (mVar 3) (Qa (mVar 4) mNil)))) (Qa (mOpA newL (Qa (mVar 2) (Qa (mVar 3) (Qa (mVar 4) (Qa (mVar 5) mNil))))) (Qa (mLit .non) (Qa (mOpA pTup (Qa (mVar 2) (Qa (mVar 3) (Qa (mVar 4) (Qa (mVar 5) (Qa (mLit (.int 0)) mNil)))))) mNil)))) [some (.int q),some (.tup [.int st,.str f,L,R]),some (.int st),some (.str f),some L,some R,some (.ref n15),some tk,some (.int sp)] g5=.ok (.ref (g5++[GO.lst [.int st,.str f,L,R]]).length) ((g5++[GO.lst [.int st,.str f,L,R]])++[.lst [.tup [.int st,.str f,L],.ref g5.length,.non,.tup [.int st,.str f,L,R,.int 0]]]):=rfl
  generalize g5.length=m at en pa
  generalize g5++[GO.lst [.int st,.str f,L,R]]=g6 at en pa ka
  have kn:Keeps [] g6 (g6++[.lst [.tup [.int st,.str f,L],.ref m,.non,.tup [.int st,.str f,L,R,.int 0]]]):=.push _
  have pn:(g6++[GO.lst [.tup [.int st,.str f,L],.ref m,.non,.tup [.int st,.str f,L,R,.int 0]]])[g6.length]?=some (.lst [.tup [.int st,.str f,L],.ref m,.non,.tup [.int st,.str f,L,R,.int 0]]):=Ql _
  generalize g6.length=m' at en pn
  generalize g6++[GO.lst [.tup [.int st,.str f,L],.ref m,.non,.tup [.int st,.str f,L,R,.int 0]]]=g7 at en pn kn
  obtain⟨d,d1,d2⟩:=pick (xs:=[D.tup [.int st,.str f,L],.ref m,.non,.tup [.int st,.str f,L,R,.int 0]]) (i:=q / 9 % 4) (Int.emod_nonneg _ (by decide)) (by show q / 9 % 4<((4:Nat):Int); omega)
  have hb:Bad g7 d:=by
   rcases List.mem_cons.mp d2 with rfl | d2
   ·exact Qgc
   rcases List.mem_cons.mp d2 with rfl | d2
   ·exact Qhc (kn.at' _ _ (by simp) pa)
   rcases List.mem_cons.mp d2 with rfl | d2
   ·exact Qhb
   ·rw [List.mem_singleton.mp d2]; exact Qha
  exact fin d g7 (ka.trans kn) hb fun T hT=>by
   subst hT
   exact head (Qh _ g5 (ff c0) (Qh _ g5 (ff c1) (Qh _ g5 (ff c2) (Ys (tt c3 (Q5 (Qj en (hq4 _) (QcT pn (Int.emod_nonneg _ (by decide)) d1))))))))
 by_cases c4:q % 9=4
 ·exact fin (.tup [.int st,.str f,L,.str (Str.ofString "one")]) g5 .refl (Qgb h0 hf hL5 ol (by omega)) fun T hT=>by subst hT; exact head (Qh _ g5 (ff c0) (Qh _ g5 (ff c1) (Qh _ g5 (ff c2) (Qh _ g5 (ff c3) (Ys (tt c4 rfl))))))
 by_cases c5:q % 9=5
 ·exact fin (.tup [.non,.str f,L,R]) g5 .refl (QhI fun _=>rfl) fun T hT=>by subst hT; exact head (Qh _ g5 (ff c0) (Qh _ g5 (ff c1) (Qh _ g5 (ff c2) (Qh _ g5 (ff c3) (Qh _ g5 (ff c4) (Ys (tt c5 rfl)))))))
 by_cases c6:q % 9=6
 ·have ka:Keeps [] g5 (g5++[.lst (tr.map tkD)]):=.push _
  have pa:(g5++[GO.lst (tr.map tkD)])[g5.length]?=some (.lst (tr.map tkD)):=Ql _
  have ea:=Qav hR5
  generalize g5.length=m at ea pa
  generalize g5++[GO.lst (tr.map tkD)]=g6 at ea pa ka
  have kb:Keeps [] g6 (g6++[.lst [tk]]):=.push _
  have pb:(g6++[GO.lst [tk]])[g6.length]?=some (.lst [tk]):=Ql _
  have eb:mOpA newL (Qa (mVar 7) mNil) [some (.int q),some (.tup [.int st,.str f,L,R]),some (.int st),some (.str f),some L,some R,some (.ref n15),some tk,some (.int sp)] g6=.ok (.ref g6.length) (g6++[.lst [tk]]):=rfl
  generalize g6.length=m' at eb pb
  generalize g6++[GO.lst [tk]]=g7 at eb pb kb
  have ec:=Yh (kb.at' _ _ (by simp) pa) pb (by rw [List.length_map]; simp; omega)
  have kc:Keeps [] g7 (g7++[.lst (tr.map tkD++[tk])]):=.push _
  have pc:(g7++[GO.lst (tr.map tkD++[tk])])[g7.length]?=some (.lst (tr.map tkD++[tk])):=Ql _
  generalize g7.length=m'' at ec pc
  generalize g7++[GO.lst (tr.map tkD++[tk])]=g8 at ec pc kc
  have k58:=ka.trans (kb.trans kc)
  refine fin (.tup [.int st,.str f,L,.ref m'']) g8 k58 (Qga h0 hf (Qf hL5 k58) (QF pc) (by rw [List.length_map]; omega) (by simp; omega) (fun d hd=>.inl (gl ol d hd)) (fun d hd=>?_) ⟨tk,.inr (by simp),tkF.mono k58⟩) fun T hT=>?_
  ·rcases List.mem_append.mp hd with z | z
   ·exact .inl (gl or' d z)
   ·rw [List.mem_singleton.mp z]; exact .inr (tkF.mono k58)
  ·subst hT
   exact head (Qh _ g5 (ff c0) (Qh _ g5 (ff c1) (Qh _ g5 (ff c2) (Qh _ g5 (ff c3) (Qh _ g5 (ff c4) (Qh _ g5 (ff c5) (Ys (tt c6 (Q5 (Zp (Qd (g1:=g5) rfl (Qd (g1:=g5) rfl (Qd (g1:=g5) rfl (Qd (Qj (QL (x:=R) (g1:=g5) rfl ea) eb ec) rfl)))) rfl))))))))))
 ·obtain⟨z1,g6,e8,k6,r1⟩:=Qeb (σ:=[some (.int q),some (.tup [.int st,.str f,L,R]),some (.int st),some (.str f),some L,some R,some (.ref n15),some tk,some (.int sp)]) (i:=4) (lo:=Zb) (hi:=YJ (mVar 8)) (l:=none) (u:=some sp) hL5 rfl (fun _=>rfl) (fun _=>rfl)
  have kb:Keeps [] g6 (g6++[.lst [tk]]):=.push _
  have pb:(g6++[GO.lst [tk]])[g6.length]?=some (.lst [tk]):=Ql _
  have eb:mOpA newL (Qa (mVar 7) mNil) [some (.int q),some (.tup [.int st,.str f,L,R]),some (.int st),some (.str f),some L,some R,some (.ref n15),some tk,some (.int sp)] g6=.ok (.ref g6.length) (g6++[.lst [tk]]):=rfl
  generalize g6.length=m' at eb pb
  generalize g6++[GO.lst [tk]]=g7 at eb pb kb
  have u1:=Qcf (xs:=tl.map tkD) (lo:=none) (hi:=some sp)
  have u2:=Qcf (xs:=tl.map tkD) (lo:=some sp) (hi:=none)
  have m1:=Qau (xs:=tl.map tkD) (lo:=none) (hi:=some sp)
  have m2:=Qau (xs:=tl.map tkD) (lo:=some sp) (hi:=none)
  rw [List.length_map] at u1 u2
  have ec:=Yh (kb.at' _ _ (by simp) r1) pb (by simp; omega)
  have kc:Keeps [] g7 (g7++[.lst (cutD (tl.map tkD) none (some sp)++[tk])]):=.push _
  have pc:(g7++[GO.lst (cutD (tl.map tkD) none (some sp)++[tk])])[g7.length]?=some (.lst (cutD (tl.map tkD) none (some sp)++[tk])):=Ql _
  generalize g7.length=m'' at ec pc
  generalize g7++[GO.lst (cutD (tl.map tkD) none (some sp)++[tk])]=g8 at ec pc kc
  have k58:=k6.trans (kb.trans kc)
  obtain⟨z2,g9,e9,k9,r2⟩:=Qeb (σ:=[some (.int q),some (.tup [.int st,.str f,L,R]),some (.int st),some (.str f),some L,some R,some (.ref n15),some tk,some (.int sp)]) (i:=4) (lo:=YJ (mVar 8)) (hi:=Zb) (l:=some sp) (u:=none) (Qf hL5 k58) rfl (fun _=>rfl) (fun _=>rfl)
  have ed:=Yh (k9.at' _ _ (by simp) pc) r2 (by simp; omega)
  have kd:Keeps [] g9 (g9++[.lst (cutD (tl.map tkD) none (some sp)++[tk]++cutD (tl.map tkD) (some sp) none)]):=.push _
  have pd:(g9++[GO.lst (cutD (tl.map tkD) none (some sp)++[tk]++cutD (tl.map tkD) (some sp) none)])[g9.length]?=some (.lst (cutD (tl.map tkD) none (some sp)++[tk]++cutD (tl.map tkD) (some sp) none)):=Ql _
  generalize g9.length=m3 at ed pd
  generalize g9++[GO.lst (cutD (tl.map tkD) none (some sp)++[tk]++cutD (tl.map tkD) (some sp) none)]=g10 at ed pd kd
  have k510:=k58.trans (k9.trans kd)
  refine fin (.tup [.int st,.str f,.ref m3,R]) g10 k510 (Qga h0 hf (QF pd) (Qf hR5 k510) (by simp; omega) (by rw [List.length_map]; omega) (fun d hd=>?_) (fun d hd=>.inl (gl or' d hd)) ⟨tk,.inl (by simp),tkF.mono k510⟩) fun T hT=>?_
  ·rcases List.mem_append.mp hd with z | z
   ·rcases List.mem_append.mp z with z | z
    ·exact .inl (gl ol d (m1 d z))
    ·rw [List.mem_singleton.mp z]; exact .inr (tkF.mono k510)
   ·exact .inl (gl ol d (m2 d z))
  ·subst hT
   exact head (Qh _ g5 (ff c0) (Qh _ g5 (ff c1) (Qh _ g5 (ff c2) (Qh _ g5 (ff c3) (Qh _ g5 (ff c4) (Qh _ g5 (ff c5) (Qh _ g5 (ff c6) (Q5 (Zp (Qd (g1:=g5) rfl (Qd (g1:=g5) rfl (Qd (Qj (Qj e8 eb ec) e9 ed) (Qd rfl rfl)))) rfl)))))))))
end L3
end
section
namespace L3
open PySem
theorem QeD {st:Int} {f:Str} {c:Nat} {L R:List Tk} (hL:∀ t∈L,TkOk t) (hR:∀ t∈R,TkOk t):Jr st f c (L.map Zf) (R.map Zf)=Jr st f (c+1) L R:=by
 unfold Jr
 rw [YW hL,YW hR]
theorem Qgd {x:D} {g:G} (h:Sm g 6 x x):∃ g2,Zi 6 [x,x] g=.ok (.bl true) g2∧Keeps [] g g2:=Qf8 h g .refl
theorem QeE {st:Int} {f:Str} {l r:Nat} {L R:D} {x0 x1 x2 x7 x8 x9 x10:Option D} {g:G} {b b':Bool} {tl tr:List Tk} {c:Nat} (h0:0≤st) (hf:lrS f) (hl:g[l]?=some (.lst (tl.map tkD))) (hr:g[r]?=some (.lst (tr.map tkD))) (hL:Qr g L=some (b,tl.map tkD)) (hR:Qr g R=some (b',tr.map tkD)) (ol:∀ t∈tl,TkL t) (or':∀ t∈tr,TkL t) (zl:tl.length≤18) (zr:tr.length≤18) (hc:c≤16) :
  ∃ y7 g',ZP [x0,x1,x2,some (.tup [.int st,.str f,.ref l,.ref r]),some (.tup [.int st,.str f,L,R]),some (QJ st f tl tr),some (.int c),x7,x8,x9,x10] g=.nx [x0,x1,x2,some (.tup [.int st,.str f,.ref l,.ref r]),some (.tup [.int st,.str f,L,R]),some (QJ st f tl tr),some (.int c),y7,x8,x9,x10] g'∧Keeps [] g g':=by
 have ol':∀ t∈tl,TkOk t:=fun t h=>(ol t h).ok
 have or'':∀ t∈tr,TkOk t:=fun t h=>(or' t h).ok
 have up:∀ {T:List Tk},(∀ t∈T,TkL t)->∀ t∈T.map Zf,TkOk t:=fun h t ht=>by
  obtain⟨s,hs,rfl⟩:=List.mem_map.mp ht
  exact(h s hs).raise
 obtain⟨y,g1,g2,e1,e2,k2⟩:=Qd7 (st:=st) (c:=c) hf (QF hl) (QF hr) ol' or'' (by omega) (by omega) (by omega)
 obtain⟨g3,e3,k3⟩:=QaZ (c:=c) h0 hf (Qf hL k2) (Qf hR k2) ol' or'' (by omega) (by omega) (by omega)
 obtain⟨g4,e4,k4⟩:=Qgd (Qf9 g3 (st:=st) (f:=f) (c:=c) (L:=tl) (R:=tr) (by omega) ol' or'' (by omega) (by omega))
 obtain⟨g5,e5,k5⟩:=QaZ (st:=st) (f:=f) (L:=.tup ((tl.map Zf).map tkD)) (R:=.tup ((tr.map Zf).map tkD)) (g:=g4) (b:=false) (b':=false) (c:=c) h0 hf rfl rfl (up ol) (up or') (by rw [List.length_map]; omega) (by rw [List.length_map]; omega) (by omega)
 rw [QeD ol' or''] at e5
 have kk:=k2.trans (k3.trans (k4.trans k5))
 obtain⟨y',g6,g7,e6,e7,k7⟩:=Qd7 (st:=st) (c:=c+1) hf (Qf (QF hl) kk) (Qf (QF hr) kk) ol' or'' (by omega) (by omega) (by omega)
 obtain⟨g8,e8,k8⟩:=Qgd (Qf9 g7 (st:=st) (f:=f) (c:=c+1) (L:=tl) (R:=tr) (by omega) ol' or'' (by omega) (by omega))
 refine⟨some (Jr st f c tl tr),g8,?_,kk.trans (k7.trans k8)⟩
 unfold ZP
 refine Qh [x0,x1,x2,some (.tup [.int st,.str f,.ref l,.ref r]),some (.tup [.int st,.str f,L,R]),some (QJ st f tl tr),some (.int c),some (Jr st f c tl tr),x8,x9,x10] g2 (QE ?_) (Qh _ g4 (iff' g4 (YF (QC ?_)) rfl) (iff' g8 (YF (QC ?_)) rfl))
 ·rw [Qm (ds:=[y]) (g':=g1) (Qd (by rw [Qm (ds:=[.tup [.int st,.str f,.ref l,.ref r],.int c]) (g':=g) rfl]; exact e1) rfl)]
  exact e2
 ·rw [Qm (ds:=[Jr st f c tl tr,Jr st f c tl tr]) (g':=g3) (Qd (by rw [Qm (ds:=[.tup [.int st,.str f,L,R],.int c]) (g':=g2) rfl]; exact e3) rfl)]
  exact e4
 ·have ea:Qs JB (Qa (mVar 3) (Qa (mOp2 pAdd (mVar 6) (mLit (.int 1))) mNil)) [x0,x1,x2,some (.tup [.int st,.str f,.ref l,.ref r]),some (.tup [.int st,.str f,L,R]),some (QJ st f tl tr),some (.int c),some (Jr st f c tl tr),x8,x9,x10] g5=.ok y' g6:=by
   rw [Qm (ds:=[.tup [.int st,.str f,.ref l,.ref r],.int ((c:Int)+1)]) (g':=g5) rfl]
   exact e6
  rw [Qm (ds:=[Jr st f (c+1) tl tr,Jr st f (c+1) tl tr]) (g':=g7) (Qd (by rw [Qm (ds:=[QJ st f tl tr,.int c]) (g':=g4) rfl]; exact e5) (Qd (by rw [Qm (ds:=[y']) (g':=g6) (Qd ea rfl)]; exact e7) rfl))]
  exact e8
theorem QeF {st:Int} {f:Str} {l r:Nat} {L R:D} {q:Int} {x0 x1 x8 x9 x10:Option D} {g:G} {b b':Bool} {tl tr:List Tk} (h0:0≤st) (hf:lrS f) (hl:g[l]?=some (.lst (tl.map tkD))) (hr:g[r]?=some (.lst (tr.map tkD))) (hL:Qr g L=some (b,tl.map tkD)) (hR:Qr g R=some (b',tr.map tkD)) (ol:∀ t∈tl,TkL t) (or':∀ t∈tr,TkL t) (zl:tl.length≤18) (zr:tr.length≤18) :
  ∃ y6 y7 g',mFor (QW (mOpA newL (Qa (mLit (.int 0)) (Qa (mLit (.int 1)) (Qa (mLit (.int 2)) (Qa (mLit (.int 3)) (Qa (mOp2 pMod (mOp2 QK (mVar 2) (mLit (.int 192))) (mLit (.int 16))) mNil))))))) (gSet 6) ZP [x0,x1,some (.int q),some (.tup [.int st,.str f,.ref l,.ref r]),some (.tup [.int st,.str f,L,R]),some (QJ st f tl tr),none,none,x8,x9,x10] g=.nx [x0,x1,some (.int q),some (.tup [.int st,.str f,.ref l,.ref r]),some (.tup [.int st,.str f,L,R]),some (QJ st f tl tr),y6,y7,x8,x9,x10] g'∧Keeps [] g g':=by
 have k1:Keeps [] g (g++[.lst [.int 0,.int 1,.int 2,.int 3,.int (q / 192 % 16)]]):=.push _
 have p1:(g++[GO.lst [.int 0,.int 1,.int 2,.int 3,.int (q / 192 % 16)]])[g.length]?=some (.lst [.int 0,.int 1,.int 2,.int 3,.int (q / 192 % 16)]):=Ql _
 have e1:mOpA newL (Qa (mLit (.int 0)) (Qa (mLit (.int 1)) (Qa (mLit (.int 2)) (Qa (mLit (.int 3)) (Qa (mOp2 pMod (mOp2 QK (mVar 2) (mLit (.int 192))) (mLit (.int 16))) mNil))))) [x0,x1,some (.int q),some (.tup [.int st,.str f,.ref l,.ref r]),some (.tup [.int st,.str f,L,R]),some (QJ st f tl tr),none,none,x8,x9,x10] g=.ok (.ref g.length) (g++[.lst [.int 0,.int 1,.int 2,.int 3,.int (q / 192 % 16)]]):=Zp (Qd (g1:=g) rfl (Qd (g1:=g) rfl (Qd (g1:=g) rfl (Qd (g1:=g) rfl (Qd (g1:=g) (Qj (g1:=g) (g2:=g) (Qj (g1:=g) (g2:=g) rfl rfl (divP (by decide) (by decide))) rfl (modP (by decide))) rfl))))) rfl
 generalize g.length=n at e1 p1
 generalize g++[GO.lst [.int 0,.int 1,.int 2,.int 3,.int (q / 192 % 16)]]=g1 at e1 p1 k1
 obtain⟨src,s1,s2,s3⟩:=Qbw (QF p1)
 have hcs:∀ i,i<5->∃ c:Nat,c≤16∧[D.int 0,.int 1,.int 2,.int 3,.int (q / 192 % 16)][i]?=some (.int c):=fun i hi=>by
  match i,hi with
  | 0,_=>exact⟨0,by decide,rfl⟩
  | 1,_=>exact⟨1,by decide,rfl⟩
  | 2,_=>exact⟨2,by decide,rfl⟩
  | 3,_=>exact⟨3,by decide,rfl⟩
  | 4,_=>exact⟨(q / 192 % 16).toNat,by omega,by rw [Int.toNat_of_nonneg (by omega)]; rfl⟩
 obtain⟨σ',g2,e2,⟨y6,y7,i1⟩,i2⟩:=Qb9 (src:=src) (t:=gSet 6) (body:=ZP) (n:=5) (σ:=[x0,x1,some (.int q),some (.tup [.int st,.str f,.ref l,.ref r]),some (.tup [.int st,.str f,L,R]),some (QJ st f tl tr),none,none,x8,x9,x10]) (g:=g1) s2
  (fun i σ g2=>(∃ y6 y7,σ=[x0,x1,some (.int q),some (.tup [.int st,.str f,.ref l,.ref r]),some (.tup [.int st,.str f,L,R]),some (QJ st f tl tr),y6,y7,x8,x9,x10])∧Keeps [] g1 g2) ⟨⟨none,none,rfl⟩,.refl⟩ (fun i σ g2 hi hQ=>by
   obtain⟨⟨y6,y7,i1⟩,i2⟩:=hQ
   subst i1
   obtain⟨c,c1,c2⟩:=hcs i hi
   have kk:=k1.trans i2
   obtain⟨z7,g3,e3,k3⟩:=QeE (x0:=x0) (x1:=x1) (x2:=some (.int q)) (x7:=y7) (x8:=x8) (x9:=x9) (x10:=x10) h0 hf (kk.at' _ _ (by simp) hl) (kk.at' _ _ (by simp) hr) (Qf hL kk) (Qf hR kk) ol or' zl zr c1
   exact⟨.int c,_,_,g3,by rw [s3 g2 i (Qf (QF p1) i2),c2],rfl,e3,⟨_,_,rfl⟩,i2.trans k3⟩) (fun σ g2 hQ=>by rw [s3 g2 _ (Qf (QF p1) hQ.2)]; rfl)
 subst i1
 refine⟨y6,y7,g2,(QaU ?_).trans e2,k1.trans i2⟩
 unfold QW
 rw [e1,Res.bind_ok]
 exact s1
end L3
end
section
namespace L3
open PySem
theorem Qge (ns:List Int) {a:Nat} {k:Int} {g:G} (ga:g[a]?=some (.lst [.int k])) (hk:0≤k) (hk2:k<500000000) :
  ∃ k' g',QaS [.fl (ns.map .int),.ref a] g=.ok (.bl true) g'∧k≤k'∧k'≤k+30∧g'[a]?=some (.lst [.int k']):=by
 have hal:=Zd ga
 obtain⟨q,q0,q1,e1⟩:=JW ns a k g ga hk (by omega)
 have ga1:(g.set a (.lst [.int (k+1)]))[a]?=some (.lst [.int (k+1)]):=Zs ga
 have hl1:(g.set a (.lst [.int (k+1)])).length=g.length:=List.length_set ..
 generalize g.set a (.lst [.int (k+1)])=g1 at e1 ga1 hl1
 obtain⟨st,f,l,r,tl,tr,k2,g2,e2,h0,hf,hl,hr,ol,or',zl,zr,b1,b2,_,ga2,l1,l2⟩:=Qf7 ns (states:=(1+q % 12).toNat) (sg:=(1+q / 12 % 8).toNat) (by omega) (by omega) ga1 (by omega) (by omega)
 rw [show(((1+q % 12).toNat:Nat):Int)=1+q % 12 by omega,show(((1+q / 12 % 8).toNat:Nat):Int)=1+q / 12 % 8 by omega] at e2
 have ol':∀ t∈tl,TkOk t:=fun t h=>(ol t h).ok
 have or'':∀ t∈tr,TkOk t:=fun t h=>(or' t h).ok
 have hks:∃ L R b b',Qr g2 L=some (b,tl.map tkD)∧Qr g2 R=some (b',tr.map tkD)∧(∀ g3,Keeps [a] g2 g3->Qr g3 L=some (b,tl.map tkD)∧Qr g3 R=some (b',tr.map tkD))∧mIf (Qp (mOp2 pEq (mOp2 pMod (mOp2 QK (mVar 2) (mLit (.int 96))) (mLit (.int 2))) (mLit (.int 0)))) (mAsg (gSet 4) (Qs Qap (Qa (mVar 3) mNil))) Q9 [some (.fl (ns.map .int)),some (.ref a),some (.int q),some (.tup [.int st,.str f,.ref l,.ref r]),some (.tup [.int st,.str f,.ref l,.ref r]),none,none,none,none,none,none] g2=.nx [some (.fl (ns.map .int)),some (.ref a),some (.int q),some (.tup [.int st,.str f,.ref l,.ref r]),some (.tup [.int st,.str f,L,R]),none,none,none,none,none,none] g2:=by
  have t:Qp (mOp2 pEq (mOp2 pMod (mOp2 QK (mVar 2) (mLit (.int 96))) (mLit (.int 2))) (mLit (.int 0))) [some (.fl (ns.map .int)),some (.ref a),some (.int q),some (.tup [.int st,.str f,.ref l,.ref r]),some (.tup [.int st,.str f,.ref l,.ref r]),none,none,none,none,none,none] g2=.ok (q / 96 % 2 == 0) g2:=QC (Qj (x:=.int (q / 96 % 2)) (y:=.int 0) (g1:=g2) (g2:=g2) (Qj (g1:=g2) (g2:=g2) (Qj (g1:=g2) (g2:=g2) rfl rfl (divP (by decide) (by decide))) rfl (modP (by decide))) rfl rfl)
  cases hb:(q / 96 % 2 == 0) with
  | true =>
   rw [hb] at t
   exact⟨.tup (tl.map tkD),.tup (tr.map tkD),false,false,rfl,rfl,fun _ _=>⟨rfl,rfl⟩,ift g2 t (QE (by rw [Qm (ds:=[.tup [.int st,.str f,.ref l,.ref r]]) (g':=g2) rfl]; exact Qg7 hl hr))⟩
  | false =>
   rw [hb] at t
   exact⟨.ref l,.ref r,true,true,QF hl,QF hr,fun g3 k3=>⟨QF (k3.at' _ _ (by simp; omega) hl),QF (k3.at' _ _ (by simp; omega) hr)⟩,iff' g2 t rfl⟩
 obtain⟨L,R,b,b',hL,hR,hLR,e3⟩:=hks
 obtain⟨g3,e4,k3⟩:=Qa1 h0 hf hL hR ol' or'' (by omega) (by omega)
 obtain⟨g4,e5,k4⟩:=JY (st:=st) (f:=f) (Qf (QF hl) k3) (Qf (QF hr) k3) (by omega) (by omega)
 obtain⟨g5,e6,k5⟩:=Qgd (Qa3 g4 (st:=st) (f:=f) ol or' (by omega) (by omega))
 have k25:=k3.trans (k4.trans k5)
 obtain⟨y6,y7,g6,e7,k6⟩:=QeF (q:=q) (x0:=some (.fl (ns.map .int))) (x1:=some (.ref a)) (x8:=none) (x9:=none) (x10:=none) h0 hf (k25.at' _ _ (by simp) hl) (k25.at' _ _ (by simp) hr) (Qf hL k25) (Qf hR k25) ol or' zl zr
 have k26:=k25.trans k6
 obtain⟨n,n0,n1,e8⟩:=JW ns a k2 g6 (k26.at' _ _ (by simp) ga2) (by omega) (by omega)
 have k7:Keeps [a] g6 (g6.set a (.lst [.int (k2+1)])):=.set _ _
 have ga7:(g6.set a (.lst [.int (k2+1)]))[a]?=some (.lst [.int (k2+1)]):=Zs (k26.at' _ _ (by simp) ga2)
 generalize g6.set a (.lst [.int (k2+1)])=g7 at e8 k7 ga7
 have k27:Keeps [a] g2 g7:=k26.all.trans k7
 obtain⟨hL7,hR7⟩:=hLR g7 k27
 have hl7:=k27.at' l _ (by simp; omega) hl
 have hr7:=k27.at' r _ (by simp; omega) hr
 obtain⟨x,g8,e9,k8,hbad⟩:=QiY n0 h0 hf hL7 hR7 ol' or'' (by omega) (by omega)
 obtain⟨g9,e10,k9⟩:=QiU hbad .refl
 obtain⟨g10,e11,k10⟩:=QiV hbad k9 (n % 3)
 have k710:=k8.trans (k9.trans k10)
 obtain⟨g11,e12,k11⟩:=neg_int h0 hf (Qf hL7 k710) (Qf hR7 k710) ol' or'' (by omega) (by omega) (c:=-1 - n % 5) (by omega)
 have k711:=k710.trans k11
 have kz1:Keeps [] g11 (g11++[.lst (tl.map tkD)]):=.push _
 have pz1:(g11++[GO.lst (tl.map tkD)])[g11.length]?=some (.lst (tl.map tkD)):=Ql _
 have ez1:=Qav (Qf (QF hl7) k711)
 have hz1:g7.length≤g11.length:=k711.len
 have hz1':(g11++[GO.lst (tl.map tkD)]).length=g11.length+1:=by simp
 generalize g11.length=z1 at ez1 pz1 hz1 hz1'
 generalize g11++[GO.lst (tl.map tkD)]=g12 at ez1 pz1 kz1 hz1'
 have k712:=k711.trans kz1
 have kz2:Keeps [] g12 (g12++[.lst (tr.map tkD)]):=.push _
 have pz2:(g12++[GO.lst (tr.map tkD)])[g12.length]?=some (.lst (tr.map tkD)):=Ql _
 have ez2:=Qav (Qf (QF hr7) k712)
 have hz12:z1≠g12.length:=by omega
 have hz2:g7.length≤g12.length:=k712.len
 generalize g12.length=z2 at ez2 pz2 hz12 hz2
 generalize g12++[GO.lst (tr.map tkD)]=g13 at ez2 pz2 kz2
 have k713:=k712.trans kz2
 have pz1':=kz2.at' _ _ (by simp) pz1
 obtain⟨g14,e14,k14⟩:=Qa1 h0 hf (QF pz1') (QF pz2) ol' or'' (by omega) (by omega)
 have pz1'':=k14.at' _ _ (by simp) pz1'
 have pz2'':=k14.at' _ _ (by simp) pz2
 have ka:Keeps [z1] g14 (g14.set z1 (.lst (tl.map tkD++[tkD (.one 1)]))):=.set _ _
 have pa:=ka.at' _ _ (by simp; omega) pz2''
 generalize hg15:g14.set z1 (.lst (tl.map tkD++[tkD (.one 1)]))=g15 at ka pa
 have kb:Keeps [z2] g15 (g15.set z2 (.lst [])):=.set _ _
 generalize hg16:g15.set z2 (.lst [])=g16 at kb
 have al7:a<g7.length:=Zd ga7
 have ll7:l<g7.length:=Zd hl7
 have rl7:r<g7.length:=Zd hr7
 have tail:∀ {i:Nat} {o:GO},g7[i]?=some o->g16[i]?=some o:=fun {i o} h=>kb.at' _ _ (by have:=Zd h; simp; omega) (ka.at' _ _ (by have:=Zd h; simp; omega) (k14.at' _ _ (by simp) (k713.at' _ _ (by simp) h)))
 have k716:Keeps [] g7 g16:=⟨Nat.le_trans k713.len (Nat.le_trans k14.len (Nat.le_trans ka.len kb.len)),fun i o _ h=>tail h⟩
 obtain⟨g17,e17,k17⟩:=JY (st:=st) (f:=f) (Qf (QF hl7) k716) (Qf (QF hr7) k716) (by omega) (by omega)
 obtain⟨g18,e18,k18⟩:=Qgd (Qa3 g17 (st:=st) (f:=f) ol or' (by omega) (by omega))
 have k718:=k716.trans (k17.trans k18)
 obtain⟨g19,e19,k19⟩:=Qa1 h0 hf (Qf hL7 k718) (Qf hR7 k718) ol' or'' (by omega) (by omega)
 have k719:=k718.trans k19
 obtain⟨g20,e20,k20⟩:=JY (st:=st) (f:=f) (Qf (QF hl7) k719) (Qf (QF hr7) k719) (by omega) (by omega)
 obtain⟨g21,e21,k21⟩:=Qgd (Qa3 g20 (st:=st) (f:=f) ol or' (by omega) (by omega))
 refine⟨k2+1,g21,Q1 rfl ?_,by omega,by omega,(k719.trans (k20.trans k21)).at' _ _ (by simp) ga7⟩
 show QaR [some (.fl (ns.map .int)),some (.ref a),none,none,none,none,none,none,none,none,none] g=_
 unfold QaR
 refine Qh [some (.fl (ns.map .int)),some (.ref a),some (.int q),none,none,none,none,none,none,none,none] g1 (QE (by rw [Qm (ds:=[.fl (ns.map .int),.ref a]) (g':=g) rfl]; exact e1)) ?_
 refine Qh [some (.fl (ns.map .int)),some (.ref a),some (.int q),some (.tup [.int st,.str f,.ref l,.ref r]),none,none,none,none,none,none,none] g2 (QE ?_) ?_
 ·rw [Qm (ds:=[.fl (ns.map .int),.ref a,.int (1+q % 12),.int (1+q / 12 % 8)]) (g':=g1) (Qd (g1:=g1) rfl (Qd (g1:=g1) rfl (Qd (g1:=g1) (Qj (x:=.int 1) (y:=.int (q % 12)) (g1:=g1) (g2:=g1) rfl (Qj rfl rfl (modP (by decide))) rfl) (Qd (g1:=g1) (Qj (x:=.int 1) (y:=.int (q / 12 % 8)) (g1:=g1) (g2:=g1) rfl (Qj (g1:=g1) (g2:=g1) (Qj (g1:=g1) (g2:=g1) rfl rfl (divP (by decide) (by decide))) rfl (modP (by decide))) rfl) rfl))))]
  exact e2
 refine Qh [some (.fl (ns.map .int)),some (.ref a),some (.int q),some (.tup [.int st,.str f,.ref l,.ref r]),some (.tup [.int st,.str f,.ref l,.ref r]),none,none,none,none,none,none] g2 rfl (Qh _ g2 e3 ?_)
 refine Qh [some (.fl (ns.map .int)),some (.ref a),some (.int q),some (.tup [.int st,.str f,.ref l,.ref r]),some (.tup [.int st,.str f,L,R]),some (QJ st f tl tr),none,none,none,none,none] g3 (QE (by rw [Qm (ds:=[.tup [.int st,.str f,L,R]]) (g':=g2) rfl]; exact e4)) ?_
 refine Qh _ g5 (iff' g5 (YF (QC ?_)) rfl) (Qh _ g6 e7 ?_)
 ·rw [Qm (ds:=[QJ st f tl tr,QJ st f tl tr]) (g':=g4) (Qd (g1:=g3) rfl (Qd (by rw [Qm (ds:=[.tup [.int st,.str f,.ref l,.ref r]]) (g':=g3) rfl]; exact e5) rfl))]
  exact e6
 refine Qh [some (.fl (ns.map .int)),some (.ref a),some (.int q),some (.tup [.int st,.str f,.ref l,.ref r]),some (.tup [.int st,.str f,L,R]),some (QJ st f tl tr),y6,y7,some (.int n),none,none] g7 (QE (by rw [Qm (ds:=[.fl (ns.map .int),.ref a]) (g':=g6) rfl]; exact e8)) ?_
 refine Qh [some (.fl (ns.map .int)),some (.ref a),some (.int q),some (.tup [.int st,.str f,.ref l,.ref r]),some (.tup [.int st,.str f,L,R]),some (QJ st f tl tr),y6,y7,some (.int n),some x,none] g8 (QE (by rw [Qm (ds:=[.int n,.tup [.int st,.str f,L,R]]) (g':=g7) rfl]; exact e9)) ?_
 refine Qh _ g11 (iff' g11 (Qg0 (YF (QC (g1:=g9) ?_)) (Qg0 (YF (QC (g1:=g10) ?_)) (YF (QC ?_)))) rfl) ?_
 ·rw [Qm (ds:=[x,.non]) (g':=g8) rfl]; exact e10
 ·rw [Qm (ds:=[x,.int (n % 3)]) (g':=g9) (Qd (g1:=g9) rfl (Qd (g1:=g9) (Qj rfl rfl (modP (by decide))) rfl))]; exact e11
 ·rw [Qm (ds:=[.tup [.int st,.str f,L,R],.int (-1 - n % 5)]) (g':=g10) (Qd (g1:=g10) rfl (Qd (g1:=g10) (Qj (x:=.int (-1)) (y:=.int (n % 5)) (g1:=g10) (g2:=g10) rfl (Qj rfl rfl (modP (by decide))) rfl) rfl))]; exact e12
 refine Qh [some (.fl (ns.map .int)),some (.ref a),some (.int q),some (.tup [.int st,.str f,.ref l,.ref r]),some (.tup [.int st,.str f,L,R]),some (QJ st f tl tr),y6,y7,some (.int n),some x,some (.tup [.int st,.str f,.ref z1,.ref z2])] g13 (QE (Zp (Qd (g1:=g11) rfl (Qd (g1:=g11) rfl (Qd (g1:=g12) (QL (x:=.ref l) (g1:=g11) rfl ez1) (Qd (g1:=g13) (QL (x:=.ref r) (g1:=g12) rfl ez2) rfl)))) rfl)) ?_
 refine Qh [some (.fl (ns.map .int)),some (.ref a),some (.int q),some (.tup [.int st,.str f,.ref l,.ref r]),some (.tup [.int st,.str f,L,R]),some (QJ st f tl tr),y6,y7,some (.int n),some x,some (.tup [.int st,.str f,.ref z1,.ref z2])] g14 (QE (by rw [Qm (ds:=[.tup [.int st,.str f,.ref z1,.ref z2]]) (g':=g13) rfl]; exact e14)) ?_
 refine Qh _ g15 (by rw [← hg15]; exact ZX (y:=tkD (.one 1)) rfl pz1'' rfl (by rw [List.length_map]; omega)) ?_
 refine Qh _ g16 (Z7 (d:=.non) (QL (x:=.ref z2) (g1:=g15) rfl (by unfold QdZ; dsimp only; rw [pa]; dsimp only; rw [hg16]))) (Q5 (JG (g1:=g18) ?_ ?_))
 ·rw [Qm (ds:=[QJ st f tl tr,QJ st f tl tr]) (g':=g17) (Qd (g1:=g16) rfl (Qd (by rw [Qm (ds:=[.tup [.int st,.str f,.ref l,.ref r]]) (g':=g16) rfl]; exact e17) rfl))]
  exact e18
 ·rw [Qm (ds:=[QJ st f tl tr,QJ st f tl tr]) (g':=g20) (Qd (g1:=g19) (by rw [Qm (ds:=[.tup [.int st,.str f,L,R]]) (g':=g18) rfl]; exact e19) (Qd (by rw [Qm (ds:=[.tup [.int st,.str f,.ref l,.ref r]]) (g':=g19) rfl]; exact e20) rfl))]
  exact e21
theorem law_true (ns:List Int) (hn:ns.length≤63):∃ g',QgY [.fl (ns.map .int)] []=.ok (.bl true) g':=by
 have hc:(cutD (ns.map D.int) none (some 60)).length≤60:=by
  unfold cutD
  rw [List.length_take]
  show min (min (60:Int).toNat (ns.map D.int).length - 0) _≤60
  have:(60:Int).toNat=60:=rfl
  omega
 generalize hm:(cutD (ns.map D.int) none (some 60)).length=m at hc
 have e1:mOp2 pAdd (mLit (.int 1)) (mOp2 QK (mOp1 pLen (ZA (mVar 0) Zb (YJ (mLit (.int 60))))) (mLit (.int 30))) [some (.fl (ns.map .int)),some (.ref 0),none] [.lst [.int 0]]=.ok (.int ((1+m / 30:Nat):Int)) [.lst [.int 0],.lst (cutD (ns.map D.int) none (some 60))]:=by
  have el:mOp1 pLen (ZA (mVar 0) Zb (YJ (mLit (.int 60)))) [some (.fl (ns.map .int)),some (.ref 0),none] [.lst [.int 0]]=.ok (.int m) [.lst [.int 0],.lst (cutD (ns.map D.int) none (some 60))]:=by rw [← hm]; rfl
  refine Qj (x:=.int 1) (y:=.int ((m:Int) / 30)) (g1:=[.lst [.int 0]]) rfl (Qj el rfl (divP (by decide) (by decide))) ?_
  show Res.ok (D.int (1+(m:Int) / 30)) _=_
  rw [show(1+(m:Int) / 30)=((1+m / 30:Nat):Int) by omega]
 obtain⟨σ',g',e2,⟨y,i1⟩,k',i2,i3,i4⟩:=QaT (t:=gSet 2) (body:=Qb8) (lo:=0) (n:=1+m / 30) (σ:=[some (.fl (ns.map .int)),some (.ref 0),none]) (g:=[.lst [.int 0],.lst (cutD (ns.map D.int) none (some 60))])
  (fun i σ g=>(∃ y,σ=[some (.fl (ns.map .int)),some (.ref 0),y])∧∃ k:Int,g[0]?=some (.lst [.int k])∧0≤k∧k≤30*i) ⟨⟨none,rfl⟩,0,rfl,by omega,by omega⟩ (fun i σ g hi hQ=>by
   obtain⟨⟨y,i1⟩,k,i2,i3,i4⟩:=hQ
   subst i1
   obtain⟨k',g',e,b1,b2,b3⟩:=Qge ns i2 i3 (by omega)
   refine⟨[some (.fl (ns.map .int)),some (.ref 0),some (.int (0+i))],[some (.fl (ns.map .int)),some (.ref 0),some (.int (0+i))],g',rfl,?_,⟨_,rfl⟩,k',b3,by omega,by omega⟩
   unfold Qb8
   exact iff' g' (YF (QC (by rw [Qm (ds:=[.fl (ns.map .int),.ref 0]) (g':=g) rfl]; exact e))) rfl)
 subst i1
 refine⟨g',Q1 rfl ?_⟩
 show QiK [some (.fl (ns.map .int)),none,none] []=_
 unfold QiK
 exact Qh [some (.fl (ns.map .int)),some (.ref 0),none] [.lst [.int 0]] rfl (Qh _ g' ((QaU (JE e1 (QfW (by omega)))).trans e2) rfl)
end L3
end
section
namespace V
open PySem PySem.Spec PyProof.Rows L2 L3
noncomputable def top (i:Nat):Stmt:=PySem.Challenge.pw_tapeproof_k40_laid_out.main.body.getD i (.Pass ⟨0,0,0,0⟩)
noncomputable abbrev ZY:Stmt:=top 13
noncomputable abbrev QeG:List Str:=["value"]
theorem Qdt:FnScope QeG ["value"] (Qe ZY):=⟨rfl,rfl,rfl,by decide +kernel,rfl,by decide +kernel,by decide +kernel⟩
noncomputable abbrev QV:Stmt:=top 14
noncomputable abbrev Qad:List Str:=["value"]
theorem J0:FnScope Qad ["value"] (Qe QV):=⟨rfl,rfl,rfl,by decide +kernel,rfl,by decide +kernel,by decide +kernel⟩
noncomputable abbrev Z9:Stmt:=top 21
noncomputable abbrev QcY:List Str:=["thing"]
theorem QeH:FnScope QcY ["thing"] (Qe Z9):=⟨rfl,rfl,rfl,by decide +kernel,rfl,by decide +kernel,by decide +kernel⟩
noncomputable abbrev ZZ:Stmt:=top 22
noncomputable abbrev QeI:List Str:=["thing"]
theorem Qdu:FnScope QeI ["thing"] (Qe ZZ):=⟨rfl,rfl,rfl,by decide +kernel,rfl,by decide +kernel,by decide +kernel⟩
noncomputable abbrev Q0:Stmt:=top 23
noncomputable abbrev Jh:List Str:=["tokens"]
theorem Qa5:FnScope Jh ["tokens"] (Qe Q0):=⟨rfl,rfl,rfl,by decide +kernel,rfl,by decide +kernel,by decide +kernel⟩
noncomputable abbrev Zl:Stmt:=top 24
noncomputable abbrev Qch:List Str:=["shape"]
theorem Qbe:FnScope Qch ["shape"] (Qe Zl):=⟨rfl,rfl,rfl,by decide +kernel,rfl,by decide +kernel,by decide +kernel⟩
noncomputable abbrev Z0:Stmt:=top 25
noncomputable abbrev QeJ:List Str:=["tokens", "count", "cells", "token"]
theorem sc_cells_of:FnScope QeJ ["tokens", "count"] (Qe Z0):=⟨rfl,rfl,rfl,by decide +kernel,rfl,by decide +kernel,by decide +kernel⟩
noncomputable abbrev ZK:Stmt:=top 26
noncomputable abbrev Qbz:List Str:=["shape", "count", "left", "cells", "marks"]
theorem sc_laid_out:FnScope Qbz ["shape", "count"] (Qe ZK):=⟨rfl,rfl,rfl,by decide +kernel,rfl,by decide +kernel,by decide +kernel⟩
noncomputable abbrev Q8:Stmt:=top 27
noncomputable abbrev Qbf:List Str:=["token"]
theorem Qa6:FnScope Qbf ["token"] (Qe Q8):=⟨rfl,rfl,rfl,by decide +kernel,rfl,by decide +kernel,by decide +kernel⟩
noncomputable abbrev QS:Stmt:=top 28
noncomputable abbrev YX:List Str:=["tokens"]
theorem Qae:FnScope YX ["tokens"] (Qe QS):=⟨rfl,rfl,rfl,by decide +kernel,rfl,by decide +kernel,by decide +kernel⟩
noncomputable abbrev Y9:Stmt:=top 29
noncomputable abbrev Qhf:List Str:=["shape"]
theorem Qgf:FnScope Qhf ["shape"] (Qe Y9):=⟨rfl,rfl,rfl,by decide +kernel,rfl,by decide +kernel,by decide +kernel⟩
noncomputable abbrev Ja:Stmt:=top 31
noncomputable abbrev Qhg:List Str:=["_law_script", "_law_at", "_law_cell", "_law_m"]
theorem sc_L_next:FnScope Qhg ["_law_script", "_law_at"] (Qe Ja):=⟨rfl,rfl,rfl,by decide +kernel,rfl,by decide +kernel,by decide +kernel⟩
noncomputable abbrev Yi:Stmt:=top 32
noncomputable abbrev Qci:List Str:=["_law_found", "_law_due"]
theorem Qgg:FnScope Qci ["_law_found", "_law_due"] (Qe Yi):=⟨rfl,rfl,rfl,by decide +kernel,rfl,by decide +kernel,by decide +kernel⟩
noncomputable abbrev YD:Stmt:=top 33
noncomputable abbrev Qec:List Str:=["_law_script", "_law_at", "_law_signs", "_law_m", "_law_many", "_law_turn"]
theorem sc_L_word:FnScope Qec ["_law_script", "_law_at", "_law_signs"] (Qe YD):=⟨rfl,rfl,rfl,by decide +kernel,rfl,by decide +kernel,by decide +kernel⟩
noncomputable abbrev ZL:Stmt:=top 34
noncomputable abbrev QbA:List Str:=["_law_script", "_law_at", "_law_signs", "_law_most", "_law_tokens_here", "_law_m", "_law_word_here", "_law_ones"]
theorem sc_L_tokens:FnScope QbA ["_law_script", "_law_at", "_law_signs", "_law_most"] (Qe ZL):=⟨rfl,rfl,rfl,by decide +kernel,rfl,by decide +kernel,by decide +kernel⟩
noncomputable abbrev Yu:Stmt:=top 35
noncomputable abbrev Qgh:List Str:=["_law_script", "_law_at", "_law_states", "_law_signs", "_law_m", "_law_left", "_law_right"]
theorem sc_L_shape:FnScope Qgh ["_law_script", "_law_at", "_law_states", "_law_signs"] (Qe Yu):=⟨rfl,rfl,rfl,by decide +kernel,rfl,by decide +kernel,by decide +kernel⟩
noncomputable abbrev Yv:Stmt:=top 36
noncomputable abbrev Qgi:List Str:=["_law_tokens_here", "_law_count", "_law_cells_here", "_law_token", "_law_k"]
theorem sc_L_cells:FnScope Qgi ["_law_tokens_here", "_law_count"] (Qe Yv):=⟨rfl,rfl,rfl,by decide +kernel,rfl,by decide +kernel,by decide +kernel⟩
noncomputable abbrev Jb:Stmt:=top 37
noncomputable abbrev Qhh:List Str:=["_law_shape_here", "_law_count", "_law_state", "_law_facing", "_law_left", "_law_right", "_law_ahead", "_law_row", "_law_cells_here", "_law_k"]
theorem sc_L_laid:FnScope Qhh ["_law_shape_here", "_law_count"] (Qe Jb):=⟨rfl,rfl,rfl,by decide +kernel,rfl,by decide +kernel,by decide +kernel⟩
noncomputable abbrev YE:Stmt:=top 38
noncomputable abbrev Qed:List Str:=["_law_shot_here", "_law_state", "_law_place", "_law_cells_here"]
theorem sc_L_shot:FnScope Qed ["_law_shot_here"] (Qe YE):=⟨rfl,rfl,rfl,by decide +kernel,rfl,by decide +kernel,by decide +kernel⟩
noncomputable abbrev Jc:Stmt:=top 39
noncomputable abbrev Qhi:List Str:=["_law_shape_here", "_law_state", "_law_facing", "_law_left", "_law_right"]
theorem sc_L_kept:FnScope Qhi ["_law_shape_here"] (Qe Jc):=⟨rfl,rfl,rfl,by decide +kernel,rfl,by decide +kernel,by decide +kernel⟩
noncomputable abbrev Jd:Stmt:=top 40
noncomputable abbrev Qhj:List Str:=["_law_tokens_here", "_law_made", "_law_token"]
theorem sc_L_more:FnScope Qhj ["_law_tokens_here"] (Qe Jd):=⟨rfl,rfl,rfl,by decide +kernel,rfl,by decide +kernel,by decide +kernel⟩
noncomputable abbrev Z1:Stmt:=top 41
noncomputable abbrev QeK:List Str:=["_law_shape_here", "_law_state", "_law_facing", "_law_left", "_law_right"]
theorem sc_L_raised:FnScope QeK ["_law_shape_here"] (Qe Z1):=⟨rfl,rfl,rfl,by decide +kernel,rfl,by decide +kernel,by decide +kernel⟩
noncomputable abbrev QbB:Stmt:=top 42
noncomputable abbrev Qkx:List Str:=["_law_caught", "_law_which", "_law_others"]
theorem sc_L_is:FnScope Qkx ["_law_caught", "_law_which"] (Qe QbB):=⟨rfl,rfl,rfl,by decide +kernel,rfl,by decide +kernel,by decide +kernel⟩
noncomputable abbrev Zm:Stmt:=top 43
noncomputable abbrev Qcj:List Str:=["_law_m", "_law_shape_here", "_law_state", "_law_facing", "_law_left", "_law_right", "_law_bad", "_law_token", "_law_spot"]
theorem sc_L_bad_shape:FnScope Qcj ["_law_m", "_law_shape_here"] (Qe Zm):=⟨rfl,rfl,rfl,by decide +kernel,rfl,by decide +kernel,by decide +kernel⟩
noncomputable abbrev ZM:Stmt:=top 44
noncomputable abbrev Qdv:List Str:=["_law_shape_here", "_law_count", "_law_caught", "e"]
theorem sc_L_refused:FnScope Qdv ["_law_shape_here", "_law_count"] (Qe ZM):=⟨rfl,rfl,rfl,by decide +kernel,rfl,by decide +kernel,by decide +kernel⟩
noncomputable abbrev Yw:Stmt:=top 45
noncomputable abbrev Qgj:List Str:=["_law_script", "_law_at", "_law_m", "_law_fresh", "_law_shape_here", "_law_told", "_law_count", "_law_due", "_law_n", "_law_bad", "_law_lists"]
theorem sc_L_round:FnScope Qgj ["_law_script", "_law_at"] (Qe Yw):=⟨rfl,rfl,rfl,by decide +kernel,rfl,by decide +kernel,by decide +kernel⟩
noncomputable abbrev Qdw:Stmt:=top 46
noncomputable abbrev Qlb:List Str:=["_law_script", "_law_at", "_law_k"]
theorem sc_law:FnScope Qlb ["_law_script"] (Qe Qdw):=⟨rfl,rfl,rfl,by decide +kernel,rfl,by decide +kernel,by decide +kernel⟩
structure Zk (K:PySem.W.Frag) (mg:Str->Option Value) (ca:Nat->Addr):Prop where
 z_ValueError:mg "ValueError" = none
 z_all:mg "all" = none
 z_bool:mg "bool" = none
 z_dict:mg "dict" = none
 z_enumerate:mg "enumerate" = none
 z_int:mg "int" = none
 z_isinstance:mg "isinstance" = none
 z_len:mg "len" = none
 z_list:mg "list" = none
 z_range:mg "range" = none
 z_sorted:mg "sorted" = none
 z_str:mg "str" = none
 z_tuple:mg "tuple" = none
 z_zip:mg "zip" = none
 g_BLANK:∃ k,mg "BLANK" = some (.int 0 k)
 g_LEFT:∃ k,mg "LEFT" = some (.str (Str.ofString "l") k)
 g_MANY:∃ k,mg "MANY" = some (.str (Str.ofString "many") k)
 g_ONE:∃ k,mg "ONE" = some (.str (Str.ofString "one") k)
 g_RIGHT:∃ k,mg "RIGHT" = some (.str (Str.ofString "r") k)
 t_TapeError:mg "TapeError" = some (.ref (ca 0))∧CatX K ca (ca 0) [0,1,2,3,4,5,6,7,8,9,10] []
 x_NoMachine:mg "NoMachine" = some (.ref (ca 1))∧IsX K ca (.ref (ca 1)) [0,1,2,3,4,5,6,7,8,9,10] [1]
 x_NoMove:mg "NoMove" = some (.ref (ca 8))∧IsX K ca (.ref (ca 8)) [0,1,2,3,4,5,6,7,8,9,10] [8]
 x_NoNames:mg "NoNames" = some (.ref (ca 2))∧IsX K ca (.ref (ca 2)) [0,1,2,3,4,5,6,7,8,9,10] [2]
 x_NoNumber:mg "NoNumber" = some (.ref (ca 3))∧IsX K ca (.ref (ca 3)) [0,1,2,3,4,5,6,7,8,9,10] [3]
 x_NoShape:mg "NoShape" = some (.ref (ca 7))∧IsX K ca (.ref (ca 7)) [0,1,2,3,4,5,6,7,8,9,10] [7]
 x_NoShot:mg "NoShot" = some (.ref (ca 4))∧IsX K ca (.ref (ca 4)) [0,1,2,3,4,5,6,7,8,9,10] [4]
 x_NoStretches:mg "NoStretches" = some (.ref (ca 5))∧IsX K ca (.ref (ca 5)) [0,1,2,3,4,5,6,7,8,9,10] [5]
 x_NoText:mg "NoText" = some (.ref (ca 10))∧IsX K ca (.ref (ca 10)) [0,1,2,3,4,5,6,7,8,9,10] [10]
 x_NoWidth:mg "NoWidth" = some (.ref (ca 9))∧IsX K ca (.ref (ca 9)) [0,1,2,3,4,5,6,7,8,9,10] [9]
 x_TooLong:mg "TooLong" = some (.ref (ca 6))∧IsX K ca (.ref (ca 6)) [0,1,2,3,4,5,6,7,8,9,10] [6]
 x_ValueError:bootBuiltins "ValueError" = some (.type "ValueError")∧IsX K ca (.type "ValueError") [0,1,2,3,4,5,6,7,8,9,10] [0,1,2,3,4,5,6,7,8,9,10]
 e_NoShape:RaH K mg ca 7 "NoShape"
 u_is_whole:∃ f fd,Fun K "is_whole" "is_whole" ZY f fd∧mg "is_whole" = some (.ref f)
 u_is_from_nought:∃ f fd,Fun K "is_from_nought" "is_from_nought" QV f fd∧mg "is_from_nought" = some (.ref f)
 u_is_word:∃ f fd,Fun K "is_word" "is_word" Z9 f fd∧mg "is_word" = some (.ref f)
 u_is_token:∃ f fd,Fun K "is_token" "is_token" ZZ f fd∧mg "is_token" = some (.ref f)
 u_check_tokens:∃ f fd,Fun K "check_tokens" "check_tokens" Q0 f fd∧mg "check_tokens" = some (.ref f)
 u_check_shape:∃ f fd,Fun K "check_shape" "check_shape" Zl f fd∧mg "check_shape" = some (.ref f)
 u_cells_of:∃ f fd,Fun K "cells_of" "cells_of" Z0 f fd∧mg "cells_of" = some (.ref f)
 u_laid_out:∃ f fd,Fun K "laid_out" "laid_out" ZK f fd∧mg "laid_out" = some (.ref f)
 u_raised_token:∃ f fd,Fun K "raised_token" "raised_token" Q8 f fd∧mg "raised_token" = some (.ref f)
 u_raised_tokens:∃ f fd,Fun K "raised_tokens" "raised_tokens" QS f fd∧mg "raised_tokens" = some (.ref f)
 u_raised:∃ f fd,Fun K "raised" "raised" Y9 f fd∧mg "raised" = some (.ref f)
 u_L_next:∃ f fd,Fun K "_law_next" "_law_next" Ja f fd∧mg "_law_next" = some (.ref f)
 u_L_same:∃ f fd,Fun K "_law_same" "_law_same" Yi f fd∧mg "_law_same" = some (.ref f)
 u_L_word:∃ f fd,Fun K "_law_word" "_law_word" YD f fd∧mg "_law_word" = some (.ref f)
 u_L_tokens:∃ f fd,Fun K "_law_tokens" "_law_tokens" ZL f fd∧mg "_law_tokens" = some (.ref f)
 u_L_shape:∃ f fd,Fun K "_law_shape" "_law_shape" Yu f fd∧mg "_law_shape" = some (.ref f)
 u_L_cells:∃ f fd,Fun K "_law_cells" "_law_cells" Yv f fd∧mg "_law_cells" = some (.ref f)
 u_L_laid:∃ f fd,Fun K "_law_laid" "_law_laid" Jb f fd∧mg "_law_laid" = some (.ref f)
 u_L_shot:∃ f fd,Fun K "_law_shot" "_law_shot" YE f fd∧mg "_law_shot" = some (.ref f)
 u_L_kept:∃ f fd,Fun K "_law_kept" "_law_kept" Jc f fd∧mg "_law_kept" = some (.ref f)
 u_L_more:∃ f fd,Fun K "_law_more" "_law_more" Jd f fd∧mg "_law_more" = some (.ref f)
 u_L_raised:∃ f fd,Fun K "_law_raised" "_law_raised" Z1 f fd∧mg "_law_raised" = some (.ref f)
 u_L_is:∃ f fd,Fun K "_law_is" "_law_is" QbB f fd∧mg "_law_is" = some (.ref f)
 u_L_bad_shape:∃ f fd,Fun K "_law_bad_shape" "_law_bad_shape" Zm f fd∧mg "_law_bad_shape" = some (.ref f)
 u_L_refused:∃ f fd,Fun K "_law_refused" "_law_refused" ZM f fd∧mg "_law_refused" = some (.ref f)
 u_L_round:∃ f fd,Fun K "_law_round" "_law_round" Yw f fd∧mg "_law_round" = some (.ref f)
 u_law:∃ f fd,Fun K "law" "law" Qdw f fd∧mg "law" = some (.ref f)
section
seal PE3 PT3 PW3 PA3 PS3 PSs3 PG3 PI3
variable {P:Program} {w:World} {K:PySem.W.Frag} {mg:Str->Option Value} {base:Heap} {ca:Nat->Addr}
theorem Qdx (Z:Zk K mg ca):FnH P w K mg base ca "is_whole" 1 1 Qbt:=by
 obtain⟨f,fd,F,hm⟩:=Z.u_is_whole
 exact⟨⟨f,fd,["value"],ZI F Qdt rfl rfl (fun cdv A outer s H E hr=>(Qo (QT (Jl (ZO .int Z.z_isinstance Z.z_int Qhu (Qb 0)) (QaB (QjH (ZO .bool Z.z_isinstance Z.z_bool QfC (Qb 0)))))))),hm,F.kp,F.binds (ps:=["value"]) (fun _ _ _ _ _ _ us hl=>by obtain⟨_,rfl⟩:=L3.len1 hl; rfl)⟩,QH _ _ _⟩
theorem Q4 (Z:Zk K mg ca):FnH P w K mg base ca "is_from_nought" 2 1 Qn:=by
 obtain⟨f,fd,F,hm⟩:=Z.u_is_from_nought
 exact⟨⟨f,fd,["value"],ZI F J0 rfl rfl (fun cdv A outer s H E hr=>(Qo (QT (Jl (Qu (Qdx Z) (hr.mono (by omega)) (Qc (Qb 0) Qk)) (QaB (r_ge (Qb 0) Qi)))))),hm,F.kp,F.binds (ps:=["value"]) (fun _ _ _ _ _ _ us hl=>by obtain⟨_,rfl⟩:=L3.len1 hl; rfl)⟩,QH _ _ _⟩
theorem QeL (Z:Zk K mg ca):FnH P w K mg base ca "is_word" 3 1 Yp:=by
 obtain⟨f,fd,F,hm⟩:=Z.u_is_word
 exact⟨⟨f,fd,["thing"],ZI F QeH rfl rfl (fun cdv A outer s H E hr=>(Qo (QT (Jl (ZO .tuple Z.z_isinstance Z.z_tuple Y2 (Qb 0)) (Jl (r_gt (YN Z.z_len (Qb 0)) Qi) (QaB (QgG rfl Z.z_all (QaF (ZD (Nb:=["sign"]) (no:=1) (cap:=[]) (N:=QcY) (sc:=Qe Z9) rfl rfl (by decide +kernel)) rfl (Yl (Qb 0)) (fun cl C s3 H3 ex=>⟨(QG 0 (show List.Nodup (["sign"]:List Str) by decide +kernel)),Qdb,(Qu (Q4 Z) (hr.mono (by omega)) (Qc (Qb 0) Qk))⟩))))))))),hm,F.kp,F.binds (ps:=["thing"]) (fun _ _ _ _ _ _ us hl=>by obtain⟨_,rfl⟩:=L3.len1 hl; rfl)⟩,QH _ _ _⟩
theorem Qdy (Z:Zk K mg ca):FnH P w K mg base ca "is_token" 4 1 Zt:=by
 obtain⟨f,fd,F,hm⟩:=Z.u_is_token
 exact⟨⟨f,fd,["thing"],ZI F Qdu rfl rfl (fun cdv A outer s H E hr=>(Qg (r_if (Z4 (ZB (ZO .tuple Z.z_isinstance Z.z_tuple Y2 (Qb 0)))) (Qo (QT r_bl)) QP)
 (Qg (r_if (Jf hr (YN Z.z_len (Qb 0)) Qi) (Qo (QT (Jl (r_eq hr (Qx (Qb 0) Qi) (J7 Z.g_ONE)) (QaB (Qu (Q4 Z) (hr.mono (by omega)) (Qc (Qx (Qb 0) Qi) Qk)))))) QP)
 (Qo (QT (Jl (r_eq hr (YN Z.z_len (Qb 0)) Qi) (Jl (r_eq hr (Qx (Qb 0) Qi) (J7 Z.g_MANY)) (Jl (Qu (QeL Z) (hr.mono (by omega)) (Qc (Qx (Qb 0) Qi) Qk)) (QaB (Qu (Q4 Z) (hr.mono (by omega)) (Qc (Qx (Qb 0) Qi) Qk))))))))))),hm,F.kp,F.binds (ps:=["thing"]) (fun _ _ _ _ _ _ us hl=>by obtain⟨_,rfl⟩:=L3.len1 hl; rfl)⟩,QH _ _ _⟩
theorem YY (Z:Zk K mg ca):FnH P w K mg base ca "check_tokens" 5 1 Qq:=by
 obtain⟨f,fd,F,hm⟩:=Z.u_check_tokens
 exact⟨⟨f,fd,["tokens"],ZI F Qa5 rfl rfl (fun cdv A outer s H E hr=>(Qo (r_if (r_w (QcE (Z4 (ZB (QiJ Z.z_isinstance Z.z_list Z.z_tuple (Qb 0)))) (QaA (Z4 (ZB (QgG rfl Z.z_all (QaF (ZD (Nb:=["thing"]) (no:=1) (cap:=[]) (N:=Jh) (sc:=Qe Q0) rfl rfl (by decide +kernel)) rfl (Yl (Qb 0)) (fun cl C s3 H3 ex=>⟨(QG 0 (show List.Nodup (["thing"]:List Str) by decide +kernel)),Qdb,(Qu (Qdy Z) (hr.mono (by omega)) (Qc (Qb 0) Qk))⟩)))))))) (Qo (QaG Z.e_NoShape hr.hd (Qc Zh Qk))) QP))),hm,F.kp,F.binds (ps:=["tokens"]) (fun _ _ _ _ _ _ us hl=>by obtain⟨_,rfl⟩:=L3.len1 hl; rfl)⟩,QH _ _ _⟩
theorem Ji (Z:Zk K mg ca):FnH P w K mg base ca "check_shape" 6 1 Q7:=by
 obtain⟨f,fd,F,hm⟩:=Z.u_check_shape
 exact⟨⟨f,fd,["shape"],ZI F Qbe rfl rfl (fun cdv A outer s H E hr=>(Qg (r_if (r_w (QcE (Z4 (ZB (ZO .tuple Z.z_isinstance Z.z_tuple Y2 (Qb 0)))) (QaA (Qeq hr (YN Z.z_len (Qb 0)) Qi)))) (Qo (QaG Z.e_NoShape hr.hd (Qc Zh Qk))) QP)
 (Qg (r_if (Z4 (ZB (Qu (Q4 Z) (hr.mono (by omega)) (Qc (Qx (Qb 0) Qi) Qk)))) (Qo (QaG Z.e_NoShape hr.hd (Qc Zh Qk))) QP)
 (Qg (r_if (QgH (Qx (Qb 0) Qi) (Q3 (Qc (J7 Z.g_LEFT) (Qc (J7 Z.g_RIGHT) Qk)))) (Qo (QaG Z.e_NoShape hr.hd (Qc Zh Qk))) QP)
 (Qg (ZS (Qu (YY Z) (hr.mono (by omega)) (Qc (Qx (Qb 0) Qi) Qk)))
 (Qo (ZS (Qu (YY Z) (hr.mono (by omega)) (Qc (Qx (Qb 0) Qi) Qk))))))))),hm,F.kp,F.binds (ps:=["shape"]) (fun _ _ _ _ _ _ us hl=>by obtain⟨_,rfl⟩:=L3.len1 hl; rfl)⟩,QH _ _ _⟩
theorem Qa7 (Z:Zk K mg ca):FnH P w K mg base ca "cells_of" 1 2 Y6:=by
 obtain⟨f,fd,F,hm⟩:=Z.u_cells_of
 exact⟨⟨f,fd,["tokens", "count"],ZI F sc_cells_of rfl rfl (fun cdv A outer s H E hr=>(Qg (QY 2 sc_cells_of.nd (ZR Qk))
 (Qg (Qda rfl (Yl (Qb 0)) (QG 3 sc_cells_of.nd) (Qo (r_if (Jf hr (Qx (Qb 3) Qi) (J7 Z.g_ONE)) (Qo (ZS (Y1 (Qb 2) (Qx (Qb 3) Qi)))) (Qo (ZS (QbZ (Qb 2) (QcK (Qx (Qb 3) Qi) (ZT (Qb 1) (Qx (Qb 3) Qi)))))))))
 (Qo (QT (Qb 2)))))),hm,F.kp,F.binds (ps:=["tokens", "count"]) (fun _ _ _ _ _ _ us hl=>by obtain⟨_,_,rfl⟩:=L3.len2 hl; rfl)⟩,QH _ _ _⟩
theorem Js (Z:Zk K mg ca):FnH P w K mg base ca "laid_out" 7 2 Zu:=by
 obtain⟨f,fd,F,hm⟩:=Z.u_laid_out
 exact⟨⟨f,fd,["shape", "count"],ZI F sc_laid_out rfl rfl (fun cdv A outer s H E hr=>(Qg (ZS (Qu (Ji Z) (hr.mono (by omega)) (Qc (Qb 0) Qk)))
 (Qg (r_if (Z4 (ZB (Qu (Q4 Z) (hr.mono (by omega)) (Qc (Qb 1) Qk)))) (Qo (QaG Z.e_NoShape hr.hd (Qc Zh Qk))) QP)
 (Qg (QY 2 sc_laid_out.nd (Qu (Qa7 Z) (hr.mono (by omega)) (Qc (Qx (Qb 0) Qi) (Qc (Qb 1) Qk))))
 (Qg (QY 3 sc_laid_out.nd (ZT (Qb 2) (Qu (Qa7 Z) (hr.mono (by omega)) (Qc (Qx (Qb 0) Qi) (Qc (Qb 1) Qk)))))
 (Qg (QcJ 4 sc_laid_out.nd (ZD (Nb:=["at", "sign", "left"]) (no:=2) (cap:=[2]) (N:=Qbz) (sc:=Qe ZK) rfl rfl (by decide +kernel)) rfl (QgR Z.z_enumerate (Qb 3)) (fun cl C s3 H3 ex=>⟨(QaD rfl (QQ (QG 0 (show List.Nodup (["at", "sign", "left"]:List Str) by decide +kernel)) (QQ (QG 1 (show List.Nodup (["at", "sign", "left"]:List Str) by decide +kernel)) QaC))),(QjP (Qeq hr (Qb 1) (Qj0 Z.g_BLANK))),(Q3 (Qc (Qib (Qb 0) (YN Z.z_len (Qb 2))) (Qc (Qb 1) Qk)))⟩))
 (Qo (QT (Q3 (Qc (Qx (Qb 0) Qi) (Qc (QjI (Jf hr (Qx (Qb 0) Qi) (J7 Z.g_RIGHT)) Qi (QbL Qi)) (Qc (Jm Z.z_tuple (Qb 4)) Qk)))))))))))),hm,F.kp,F.binds (ps:=["shape", "count"]) (fun _ _ _ _ _ _ us hl=>by obtain⟨_,_,rfl⟩:=L3.len2 hl; rfl)⟩,QH _ _ _⟩
theorem Qa8 (Z:Zk K mg ca):FnH P w K mg base ca "raised_token" 1 1 ZN:=by
 obtain⟨f,fd,F,hm⟩:=Z.u_raised_token
 exact⟨⟨f,fd,["token"],ZI F Qa6 rfl rfl (fun cdv A outer s H E hr=>(Qo (QT (QjI (Jf hr (Qx (Qb 0) Qi) (J7 Z.g_ONE)) (Qb 0) (Q3 (Qc (J7 Z.g_MANY) (Qc (Qx (Qb 0) Qi) (Qc (ZT (Qx (Qb 0) Qi) Qi) Qk)))))))),hm,F.kp,F.binds (ps:=["token"]) (fun _ _ _ _ _ _ us hl=>by obtain⟨_,rfl⟩:=L3.len1 hl; rfl)⟩,QH _ _ _⟩
theorem YI (Z:Zk K mg ca):FnH P w K mg base ca "raised_tokens" 2 1 ZE:=by
 obtain⟨f,fd,F,hm⟩:=Z.u_raised_tokens
 exact⟨⟨f,fd,["tokens"],ZI F Qae rfl rfl (fun cdv A outer s H E hr=>(Qo (QT (Jm Z.z_tuple (QaF (ZD (Nb:=["token"]) (no:=1) (cap:=[]) (N:=YX) (sc:=Qe QS) rfl rfl (by decide +kernel)) rfl (Yl (Qb 0)) (fun cl C s3 H3 ex=>⟨(QG 0 (show List.Nodup (["token"]:List Str) by decide +kernel)),Qdb,(Qu (Qa8 Z) (hr.mono (by omega)) (Qc (Qb 0) Qk))⟩)))))),hm,F.kp,F.binds (ps:=["tokens"]) (fun _ _ _ _ _ _ us hl=>by obtain⟨_,rfl⟩:=L3.len1 hl; rfl)⟩,QH _ _ _⟩
theorem JI (Z:Zk K mg ca):FnH P w K mg base ca "raised" 7 1 Yf:=by
 obtain⟨f,fd,F,hm⟩:=Z.u_raised
 exact⟨⟨f,fd,["shape"],ZI F Qgf rfl rfl (fun cdv A outer s H E hr=>(Qg (ZS (Qu (Ji Z) (hr.mono (by omega)) (Qc (Qb 0) Qk)))
 (Qo (QT (Q3 (Qc (Qx (Qb 0) Qi) (Qc (Qx (Qb 0) Qi) (Qc (Qu (YI Z) (hr.mono (by omega)) (Qc (Qx (Qb 0) Qi) Qk)) (Qc (Qu (YI Z) (hr.mono (by omega)) (Qc (Qx (Qb 0) Qi) Qk)) Qk))))))))),hm,F.kp,F.binds (ps:=["shape"]) (fun _ _ _ _ _ _ us hl=>by obtain⟨_,rfl⟩:=L3.len1 hl; rfl)⟩,QH _ _ _⟩
theorem Yx (Z:Zk K mg ca):FnH P w K mg base ca "_law_next" 1 2 ZV:=by
 obtain⟨f,fd,F,hm⟩:=Z.u_L_next
 exact⟨⟨f,fd,["_law_script", "_law_at"],ZI F sc_L_next rfl rfl (fun cdv A outer s H E hr=>(Qg (Qh7 (Qb 1) Qi (ZT (Qx (Qb 1) Qi) Qi))
 (Qg (QY 2 sc_L_next.nd Qi)
 (Qg (r_if (QjR (YN Z.z_len (Qb 0)) Qi) (Qo (QY 2 sc_L_next.nd (Qx (Qb 0) (Za (Qx (Qb 1) Qi) (YN Z.z_len (Qb 0)))))) QP)
 (Qg (QY 3 sc_L_next.nd (Za (QcK (ZT (ZT (Za (Qb 2) Qi) (QcK (QcK (Qx (Qb 1) Qi) (Qx (Qb 1) Qi)) Qi)) Qi) Qi) Qi))
 (Qo (QT (Za (QcK (Qb 3) (Qb 3)) Qi)))))))),hm,F.kp,F.binds (ps:=["_law_script", "_law_at"]) (fun _ _ _ _ _ _ us hl=>by obtain⟨_,_,rfl⟩:=L3.len2 hl; rfl)⟩,QH _ _ _⟩
theorem Yy (Z:Zk K mg ca):∀ n:Nat,FnH P w K mg base ca "_law_same" (1+n) 2 (Zi n)
 | 0=>by
  obtain⟨f,fd,F,hm⟩:=Z.u_L_same
  exact⟨⟨f,fd,["_law_found", "_law_due"],Qis rfl,hm,F.kp,F.binds (ps:=["_law_found", "_law_due"]) (fun _ _ _ _ _ _ us hl=>by obtain⟨_,_,rfl⟩:=L3.len2 hl; rfl)⟩,fun _ _ _=>rfl⟩
 | n+1=>by
  have ih:=Yy Z n
  obtain⟨f,fd,F,hm⟩:=Z.u_L_same
  exact⟨⟨f,fd,["_law_found", "_law_due"],ZI F Qgg rfl rfl (fun cdv A outer s H E hr=>(Qg (r_if (ZB (ZO .dict Z.z_isinstance Z.z_dict QfD (Qb 1))) (Qg (r_if (r_w (QcE (Z4 (ZB (ZO .dict Z.z_isinstance Z.z_dict QfD (Qb 0)))) (QaA (Qeq hr (YN Z.z_len (Qb 0)) (YN Z.z_len (Qb 1)))))) (Qo (QT r_bl)) QP)
 (Qo (QT (QgG rfl Z.z_all (QaF (ZD (Nb:=["_law_name", "_law_found", "_law_due"]) (no:=1) (cap:=[0,1]) (N:=Qci) (sc:=Qe Yi) rfl rfl (by decide +kernel)) rfl (Yl (Qb 1)) (fun cl C s3 H3 ex=>⟨(QG 0 (show List.Nodup (["_law_name", "_law_found", "_law_due"]:List Str) by decide +kernel)),Qdb,(Jl (r_in (Qb 0) (Qb 1)) (QaB (Qu ih hr (Qc (Qx (Qb 1) (Qb 0)) (Qc (Qx (Qb 2) (Qb 0)) Qk)))))⟩)))))) QP)
 (Qg (r_if (r_w (QcE (ZB (ZO .list Z.z_isinstance Z.z_list Qdd (Qb 1))) (QaA (ZB (ZO .tuple Z.z_isinstance Z.z_tuple Y2 (Qb 1)))))) (Qg (r_if (r_w (QcE (Qeq hr (ZO .list Z.z_isinstance Z.z_list Qdd (Qb 0)) (ZO .list Z.z_isinstance Z.z_list Qdd (Qb 1))) (QaA (Qeq hr (ZO .tuple Z.z_isinstance Z.z_tuple Y2 (Qb 0)) (ZO .tuple Z.z_isinstance Z.z_tuple Y2 (Qb 1)))))) (Qo (QT r_bl)) QP)
 (Qo (QT (Jl (r_eq hr (YN Z.z_len (Qb 0)) (YN Z.z_len (Qb 1))) (QaB (QgG rfl Z.z_all (QaF (ZD (Nb:=["_law_one", "_law_other"]) (no:=2) (cap:=[]) (N:=Qci) (sc:=Qe Yi) rfl rfl (by decide +kernel)) rfl (QkV Z.z_zip (Qb 0) (Qb 1)) (fun cl C s3 H3 ex=>⟨(QaD rfl (QQ (QG 0 (show List.Nodup (["_law_one", "_law_other"]:List Str) by decide +kernel)) (QQ (QG 1 (show List.Nodup (["_law_one", "_law_other"]:List Str) by decide +kernel)) QaC))),Qdb,(Qu ih hr (Qc (Qb 0) (Qc (Qb 1) Qk)))⟩)))))))) QP)
 (Qg (r_if (ZB (ZO .str Z.z_isinstance Z.z_str Qhv (Qb 1))) (Qo (QT (Jl (ZO .str Z.z_isinstance Z.z_str Qhv (Qb 0)) (QaB (r_eq hr (Qb 0) (Qb 1)))))) QP)
 (Qo (QT (Jl (ZO .int Z.z_isinstance Z.z_int Qhu (Qb 0)) (Jl (QjH (ZO .bool Z.z_isinstance Z.z_bool QfC (Qb 0))) (QaB (r_eq hr (Qb 0) (Qb 1))))))))))),hm,F.kp,F.binds (ps:=["_law_found", "_law_due"]) (fun _ _ _ _ _ _ us hl=>by obtain⟨_,_,rfl⟩:=L3.len2 hl; rfl)⟩,QH _ _ _⟩
theorem Qgk (Z:Zk K mg ca):FnH P w K mg base ca "_law_word" 2 3 Qb3:=by
 obtain⟨f,fd,F,hm⟩:=Z.u_L_word
 exact⟨⟨f,fd,["_law_script", "_law_at", "_law_signs"],ZI F sc_L_word rfl rfl (fun cdv A outer s H E hr=>(Qg (QY 3 sc_L_word.nd (Qu (Yx Z) (hr.mono (by omega)) (Qc (Qb 0) (Qc (Qb 1) Qk))))
 (Qg (QY 4 sc_L_word.nd (Qx (ZR (Qc Qi (Qc Qi (Qc Qi (Qc Qi (Qc Qi (Qc Qi (Qc (ZT Qi (Za (ZC (Qb 3) Qi) Qi)) (Qc Qi Qk))))))))) (Za (Qb 3) Qi)))
 (Qg (r_if (r_w (QjG (Jf hr (Qb 4) Qi) (Qh5 (QjR (Za (ZC (Qb 3) Qi) Qi) Qi)))) (Qo (QY 4 sc_L_word.nd Qi)) QP)
 (Qg (QY 5 sc_L_word.nd (Qu (Yx Z) (hr.mono (by omega)) (Qc (Qb 0) (Qc (Qb 1) Qk))))
 (Qo (QT (Jm Z.z_tuple (QaF (ZD (Nb:=["_law_k", "_law_signs", "_law_turn", "_law_m"]) (no:=1) (cap:=[2,5,3]) (N:=Qec) (sc:=Qe YD) rfl rfl (by decide +kernel)) rfl (Qai Z.z_range (Qb 4)) (fun cl C s3 H3 ex=>⟨(QG 0 (show List.Nodup (["_law_k", "_law_signs", "_law_turn", "_law_m"]:List Str) by decide +kernel)),Qdb,(Za (ZT (ZC (Qb 2) (ZT (QcK (QcK (Qb 0) (Qb 0)) (Qb 0)) Qi)) (QcK (Qb 0) (Za (ZC (Qb 3) Qi) Qi))) (Qb 1))⟩)))))))))),hm,F.kp,F.binds (ps:=["_law_script", "_law_at", "_law_signs"]) (fun _ _ _ _ _ _ us hl=>by obtain⟨_,_,_,rfl⟩:=L3.len3 hl; rfl)⟩,QH _ _ _⟩
theorem Qa9 (Z:Zk K mg ca):FnH P w K mg base ca "_law_tokens" 3 4 Y7:=by
 obtain⟨f,fd,F,hm⟩:=Z.u_L_tokens
 exact⟨⟨f,fd,["_law_script", "_law_at", "_law_signs", "_law_most"],ZI F sc_L_tokens rfl rfl (fun cdv A outer s H E hr=>(Qg (QY 4 sc_L_tokens.nd (ZR Qk))
 (Qg (Qh8 (Qic (YN Z.z_len (Qb 4)) (Qb 3)) (Qg (QY 5 sc_L_tokens.nd (Qu (Yx Z) (hr.mono (by omega)) (Qc (Qb 0) (Qc (Qb 1) Qk))))
 (Qg (r_if (Jf hr (Za (Qb 5) Qi) Qi) (Qo (QT (Qb 4))) QP)
 (Qo (r_if (Qic (Za (Qb 5) Qi) Qi) (Qo (ZS (Y1 (Qb 4) (Q3 (Qc Zh (Qc (Za (ZC (Qb 5) Qi) (Qb 2)) Qk)))))) (Qg (QY 6 sc_L_tokens.nd (Qu (Qgk Z) (hr.mono (by omega)) (Qc (Qb 0) (Qc (Qb 1) (Qc (Qb 2) Qk)))))
 (Qg (QcJ 7 sc_L_tokens.nd (ZD (Nb:=["_law_sign", "_law_word_here"]) (no:=1) (cap:=[6]) (N:=QbA) (sc:=Qe ZL) rfl rfl (by decide +kernel)) rfl (Yl (YO (Qb 6) Ye (J5 Qi))) (fun cl C s3 H3 ex=>⟨(QG 0 (show List.Nodup (["_law_sign", "_law_word_here"]:List Str) by decide +kernel)),(QjP (Qic (YN Z.z_len (Qb 1)) Qi)),(Q3 (Qc Zh (Qc (Qb 0) Qk)))⟩))
 (Qg (ZS (QbZ (Qb 4) (Qx (ZR (Qc (ZR Qk) (Qc (Qb 7) (Qc (YO (Qb 7) (J5 (QbL Qi)) Ye) (Qc (YO (Qb 7) Ye (J5 Qi)) (Qc (Qb 7) (Qc (ZR Qk) Qk))))))) (Za (ZC (Qb 5) Qi) Qi))))
 (Qg (ZS (Y1 (Qb 4) (Q3 (Qc Zh (Qc (Qb 6) (Qc (Za (ZC (Qb 5) Qi) Qi) Qk))))))
 (Qo (ZS (QbZ (Qb 4) (Qx (ZR (Qc (ZR Qk) (Qc (Qb 7) (Qc (YO (Qb 7) Ye (J5 Qi)) (Qc (YO (Qb 7) (J5 (QbL Qi)) Ye) (Qc (ZR Qk) (Qc (Qb 7) Qk))))))) (Za (ZC (Qb 5) Qi) Qi))))))))))))))
 (Qo (QT (Qb 4)))))),hm,F.kp,F.binds (ps:=["_law_script", "_law_at", "_law_signs", "_law_most"]) (fun _ _ _ _ _ _ us hl=>by obtain⟨_,_,_,_,rfl⟩:=L3.len4 hl; rfl)⟩,QH _ _ _⟩
theorem QeM (Z:Zk K mg ca):FnH P w K mg base ca "_law_shape" 4 4 QaP:=by
 obtain⟨f,fd,F,hm⟩:=Z.u_L_shape
 exact⟨⟨f,fd,["_law_script", "_law_at", "_law_states", "_law_signs"],ZI F sc_L_shape rfl rfl (fun cdv A outer s H E hr=>(Qg (QY 4 sc_L_shape.nd (Qu (Yx Z) (hr.mono (by omega)) (Qc (Qb 0) (Qc (Qb 1) Qk))))
 (Qg (QY 5 sc_L_shape.nd (Qu (Qa9 Z) (hr.mono (by omega)) (Qc (Qb 0) (Qc (Qb 1) (Qc (Qb 3) (Qc (Za (ZC (Qb 4) Qi) Qi) Qk))))))
 (Qg (QY 6 sc_L_shape.nd (Qu (Qa9 Z) (hr.mono (by omega)) (Qc (Qb 0) (Qc (Qb 1) (Qc (Qb 3) (Qc (Za (ZC (Qb 4) Qi) Qi) Qk))))))
 (Qo (QT (Q3 (Qc (Za (ZC (Qb 4) Qi) (Qb 2)) (Qc (Qx Zh (Za (Qb 4) Qi)) (Qc (Qb 5) (Qc (Qb 6) Qk))))))))))),hm,F.kp,F.binds (ps:=["_law_script", "_law_at", "_law_states", "_law_signs"]) (fun _ _ _ _ _ _ us hl=>by obtain⟨_,_,_,_,rfl⟩:=L3.len4 hl; rfl)⟩,QH _ _ _⟩
theorem QbC (Z:Zk K mg ca):FnH P w K mg base ca "_law_cells" 1 2 JA:=by
 obtain⟨f,fd,F,hm⟩:=Z.u_L_cells
 exact⟨⟨f,fd,["_law_tokens_here", "_law_count"],ZI F sc_L_cells rfl rfl (fun cdv A outer s H E hr=>(Qg (QY 2 sc_L_cells.nd (ZR Qk))
 (Qg (Qda rfl (Yl (Qb 0)) (QG 3 sc_L_cells.nd) (Qo (r_if (Jf hr (Qx (Qb 3) Qi) Zh) (Qo (ZS (Y1 (Qb 2) (Qx (Qb 3) Qi)))) (Qo (Qda rfl (Qai Z.z_range (ZT (Qb 1) (Qx (Qb 3) Qi))) (QG 4 sc_L_cells.nd) (Qo (QY 2 sc_L_cells.nd (ZT (Qb 2) (Qbl Z.z_list (Qx (Qb 3) Qi))))))))))
 (Qo (QT (Qb 2)))))),hm,F.kp,F.binds (ps:=["_law_tokens_here", "_law_count"]) (fun _ _ _ _ _ _ us hl=>by obtain⟨_,_,rfl⟩:=L3.len2 hl; rfl)⟩,QH _ _ _⟩
theorem QcZ (Z:Zk K mg ca):FnH P w K mg base ca "_law_laid" 2 2 JB:=by
 obtain⟨f,fd,F,hm⟩:=Z.u_L_laid
 exact⟨⟨f,fd,["_law_shape_here", "_law_count"],ZI F sc_L_laid rfl rfl (fun cdv A outer s H E hr=>(Qg (Qfi (Qb 0) (QaD rfl (QQ (QG 2 sc_L_laid.nd) (QQ (QG 3 sc_L_laid.nd) (QQ (QG 4 sc_L_laid.nd) (QQ (QG 5 sc_L_laid.nd) QaC))))))
 (Qg (QY 6 sc_L_laid.nd (Qu (QbC Z) (hr.mono (by omega)) (Qc (Qb 4) (Qc (Qb 1) Qk))))
 (Qg (QY 7 sc_L_laid.nd (ZT (Qb 6) (Qu (QbC Z) (hr.mono (by omega)) (Qc (Qb 5) (Qc (Qb 1) Qk)))))
 (Qg (QY 8 sc_L_laid.nd Qkn)
 (Qg (Qda rfl (Qai Z.z_range (YN Z.z_len (Qb 7))) (QG 9 sc_L_laid.nd) (Qo (r_if (Qeq hr (Qx (Qb 7) (Qb 9)) Qi) (Qo (Qko (Qb 8) (Qib (Qb 9) (YN Z.z_len (Qb 6))) (Qx (Qb 7) (Qb 9)))) QP)))
 (Qo (QT (Q3 (Qc (Qb 2) (Qc (QbL (Qii Z.z_int (r_eq hr (Qb 3) Zh))) (Qc (Qb 8) Qk)))))))))))),hm,F.kp,F.binds (ps:=["_law_shape_here", "_law_count"]) (fun _ _ _ _ _ _ us hl=>by obtain⟨_,_,rfl⟩:=L3.len2 hl; rfl)⟩,QH _ _ _⟩
theorem Qc0 (Z:Zk K mg ca):FnH P w K mg base ca "_law_shot" 1 1 JC:=by
 obtain⟨f,fd,F,hm⟩:=Z.u_L_shot
 exact⟨⟨f,fd,["_law_shot_here"],ZI F sc_L_shot rfl rfl (fun cdv A outer s H E hr=>(Qg (Qfi (Qb 0) (QaD rfl (QQ (QG 1 sc_L_shot.nd) (QQ (QG 2 sc_L_shot.nd) (QQ (QG 3 sc_L_shot.nd) QaC)))))
 (Qo (QT (Q3 (Qc (Qb 1) (Qc (Qb 2) (Qc (Jm Z.z_tuple (QaF (ZD (Nb:=["_law_spot", "_law_cells_here"]) (no:=1) (cap:=[3]) (N:=Qed) (sc:=Qe YE) rfl rfl (by decide +kernel)) rfl (Yl (QgP Z.z_sorted (Qkp rfl Z.z_list (Qb 3)))) (fun cl C s3 H3 ex=>⟨(QG 0 (show List.Nodup (["_law_spot", "_law_cells_here"]:List Str) by decide +kernel)),Qdb,(Q3 (Qc (Qb 0) (Qc (Qk6 (Qb 1) (Qb 0)) Qk)))⟩))) Qk)))))))),hm,F.kp,F.binds (ps:=["_law_shot_here"]) (fun _ _ _ _ _ _ us hl=>by obtain⟨_,rfl⟩:=L3.len1 hl; rfl)⟩,QH _ _ _⟩
theorem Qgl (Z:Zk K mg ca):FnH P w K mg base ca "_law_kept" 1 1 Qap:=by
 obtain⟨f,fd,F,hm⟩:=Z.u_L_kept
 exact⟨⟨f,fd,["_law_shape_here"],ZI F sc_L_kept rfl rfl (fun cdv A outer s H E hr=>(Qg (Qfi (Qb 0) (QaD rfl (QQ (QG 1 sc_L_kept.nd) (QQ (QG 2 sc_L_kept.nd) (QQ (QG 3 sc_L_kept.nd) (QQ (QG 4 sc_L_kept.nd) QaC))))))
 (Qo (QT (Q3 (Qc (Qb 1) (Qc (Qb 2) (Qc (Jm Z.z_tuple (Qb 3)) (Qc (Jm Z.z_tuple (Qb 4)) Qk))))))))),hm,F.kp,F.binds (ps:=["_law_shape_here"]) (fun _ _ _ _ _ _ us hl=>by obtain⟨_,rfl⟩:=L3.len1 hl; rfl)⟩,QH _ _ _⟩
theorem Qc1 (Z:Zk K mg ca):FnH P w K mg base ca "_law_more" 1 1 Qaq:=by
 obtain⟨f,fd,F,hm⟩:=Z.u_L_more
 exact⟨⟨f,fd,["_law_tokens_here"],ZI F sc_L_more rfl rfl (fun cdv A outer s H E hr=>(Qg (QY 1 sc_L_more.nd (ZR Qk))
 (Qg (Qda rfl (Yl (Qb 0)) (QG 2 sc_L_more.nd) (Qg (r_if (Jf hr (Qx (Qb 2) Qi) Zh) (Qo (QY 2 sc_L_more.nd (Q3 (Qc Zh (Qc (Qx (Qb 2) Qi) (Qc (ZT (Qx (Qb 2) Qi) Qi) Qk)))))) QP)
 (Qo (ZS (Y1 (Qb 1) (Qb 2))))))
 (Qo (QT (Jm Z.z_tuple (Qb 1))))))),hm,F.kp,F.binds (ps:=["_law_tokens_here"]) (fun _ _ _ _ _ _ us hl=>by obtain⟨_,rfl⟩:=L3.len1 hl; rfl)⟩,QH _ _ _⟩
theorem Jt (Z:Zk K mg ca):FnH P w K mg base ca "_law_raised" 2 1 Yr:=by
 obtain⟨f,fd,F,hm⟩:=Z.u_L_raised
 exact⟨⟨f,fd,["_law_shape_here"],ZI F sc_L_raised rfl rfl (fun cdv A outer s H E hr=>(Qg (Qfi (Qb 0) (QaD rfl (QQ (QG 1 sc_L_raised.nd) (QQ (QG 2 sc_L_raised.nd) (QQ (QG 3 sc_L_raised.nd) (QQ (QG 4 sc_L_raised.nd) QaC))))))
 (Qo (QT (Q3 (Qc (Qb 1) (Qc (Qb 2) (Qc (Qu (Qc1 Z) (hr.mono (by omega)) (Qc (Qb 3) Qk)) (Qc (Qu (Qc1 Z) (hr.mono (by omega)) (Qc (Qb 4) Qk)) Qk))))))))),hm,F.kp,F.binds (ps:=["_law_shape_here"]) (fun _ _ _ _ _ _ us hl=>by obtain⟨_,rfl⟩:=L3.len1 hl; rfl)⟩,QH _ _ _⟩
theorem QiZ (Z:Zk K mg ca):FnH P w K mg base ca "_law_is" 1 2 QfT:=by
 obtain⟨f,fd,F,hm⟩:=Z.u_L_is
 exact⟨⟨f,fd,["_law_caught", "_law_which"],ZI F sc_L_is rfl rfl (fun cdv A outer s H E hr=>(Qg (QY 2 sc_L_is.nd (ZR (Qc (Yn Z.z_isinstance Z.x_NoMachine (Qb 0)) (Qc (Yn Z.z_isinstance Z.x_NoNames (Qb 0)) (Qc (Yn Z.z_isinstance Z.x_NoNumber (Qb 0)) Qk)))))
 (Qg (QY 2 sc_L_is.nd (ZT (Qb 2) (ZR (Qc (Yn Z.z_isinstance Z.x_NoShot (Qb 0)) (Qc (Yn Z.z_isinstance Z.x_NoStretches (Qb 0)) (Qc (Yn Z.z_isinstance Z.x_TooLong (Qb 0)) Qk))))))
 (Qg (QY 2 sc_L_is.nd (ZT (Qb 2) (ZR (Qc (Yn Z.z_isinstance Z.x_NoWidth (Qb 0)) (Qc (Yn Z.z_isinstance Z.x_NoText (Qb 0)) Qk)))))
 (Qg (r_if (r_w (QcE (QkX r_bl (Qb 2)) (QaA (Z4 (ZB (Qio Z.z_isinstance Z.z_ValueError Z.x_ValueError (Qb 0))))))) (Qo (QT r_bl)) QP)
 (Qo (QT (Jl (r_eq hr (Yn Z.z_isinstance Z.x_NoShape (Qb 0)) (r_eq hr (Qb 1) Zh)) (QaB (r_eq hr (Yn Z.z_isinstance Z.x_NoMove (Qb 0)) (r_eq hr (Qb 1) Zh))))))))))),hm,F.kp,F.binds (ps:=["_law_caught", "_law_which"]) (fun _ _ _ _ _ _ us hl=>by obtain⟨_,_,rfl⟩:=L3.len2 hl; rfl)⟩,QH _ _ _⟩
theorem Qbg (Z:Zk K mg ca):FnH P w K mg base ca "_law_bad_shape" 1 2 ZW:=by
 obtain⟨f,fd,F,hm⟩:=Z.u_L_bad_shape
 exact⟨⟨f,fd,["_law_m", "_law_shape_here"],ZI F sc_L_bad_shape rfl rfl (fun cdv A outer s H E hr=>(Qg (Qfi (Qb 1) (QaD rfl (QQ (QG 2 sc_L_bad_shape.nd) (QQ (QG 3 sc_L_bad_shape.nd) (QQ (QG 4 sc_L_bad_shape.nd) (QQ (QG 5 sc_L_bad_shape.nd) QaC))))))
 (Qg (QY 6 sc_L_bad_shape.nd (ZR (Qc (Q3 (Qc Zh Qk)) (Qc (Q3 (Qc Zh (Qc (QbL Qi) Qk))) (Qc (Q3 (Qc Zh (Qc (Q3 Qk) (Qc Qi Qk)))) (Qc (Q3 (Qc Zh (Qc (Q3 (Qc Qi Qk)) (Qc (QbL Qi) Qk)))) (Qc (Q3 (Qc Zh (Qc (ZR (Qc Qi Qk)) (Qc Qi Qk)))) (Qc (Q3 (Qc Zh (Qc Qi Qk))) (Qc QcD Qk)))))))))
 (Qg (QY 6 sc_L_bad_shape.nd (ZT (Qb 6) (ZR (Qc (Q3 (Qc Zh (Qc (Q3 (Qc Qi Qk)) Qk))) (Qc (Q3 (Qc Zh (Qc Zh Qk))) (Qc (Q3 (Qc Zh (Qc (Q3 (Qc Qi (Qc (QbL Qi) Qk))) (Qc Qi Qk)))) (Qc (ZR (Qc Zh (Qc Qi Qk))) (Qc (Q3 Qk) (Qc Zh (Qc (Q3 (Qc Zh (Qc Qi (Qc Qi Qk)))) (Qc Qi Qk)))))))))))
 (Qg (QY 7 sc_L_bad_shape.nd (Qx (Qb 6) (Za (ZC (Qb 0) Qi) Qi)))
 (Qg (QY 8 sc_L_bad_shape.nd (Za (ZC (Qb 0) Qi) (ZT (YN Z.z_len (Qb 4)) Qi)))
 (Qg (r_if (Jf hr (Za (Qb 0) Qi) Qi) (Qo (QT (Q3 (Qc (QbL Qi) (Qc (Qb 3) (Qc (Qb 4) (Qc (Qb 5) Qk))))))) QP)
 (Qg (r_if (Jf hr (Za (Qb 0) Qi) Qi) (Qo (QT (Q3 (Qc (Qb 2) (Qc (Qx (ZR (Qc Zh (Qc Zh (Qc Zh (Qc QcD Qk))))) (Za (ZC (Qb 0) Qi) Qi)) (Qc (Qb 4) (Qc (Qb 5) Qk))))))) QP)
 (Qg (r_if (Jf hr (Za (Qb 0) Qi) Qi) (Qo (QT (Q3 (Qc (Qb 2) (Qc (Qb 3) (Qc QcD (Qc (Qb 5) Qk))))))) QP)
 (Qg (r_if (Jf hr (Za (Qb 0) Qi) Qi) (Qo (QT (Qx (ZR (Qc (Q3 (Qc (Qb 2) (Qc (Qb 3) (Qc (Qb 4) Qk)))) (Qc (ZR (Qc (Qb 2) (Qc (Qb 3) (Qc (Qb 4) (Qc (Qb 5) Qk))))) (Qc QcD (Qc (Q3 (Qc (Qb 2) (Qc (Qb 3) (Qc (Qb 4) (Qc (Qb 5) (Qc Qi Qk)))))) Qk))))) (Za (ZC (Qb 0) Qi) Qi)))) QP)
 (Qg (r_if (Jf hr (Za (Qb 0) Qi) Qi) (Qo (QT (Q3 (Qc (Qb 2) (Qc (Qb 3) (Qc (Qb 4) (Qc Zh Qk))))))) QP)
 (Qg (r_if (Jf hr (Za (Qb 0) Qi) Qi) (Qo (QT (Q3 (Qc QcD (Qc (Qb 3) (Qc (Qb 4) (Qc (Qb 5) Qk))))))) QP)
 (Qg (r_if (Jf hr (Za (Qb 0) Qi) Qi) (Qo (QT (Q3 (Qc (Qb 2) (Qc (Qb 3) (Qc (Qb 4) (Qc (ZT (Qbl Z.z_list (Qb 5)) (ZR (Qc (Qb 7) Qk))) Qk))))))) QP)
 (Qo (QT (Q3 (Qc (Qb 2) (Qc (Qb 3) (Qc (ZT (ZT (Qbl Z.z_list (YO (Qb 4) Ye (J5 (Qb 8)))) (ZR (Qc (Qb 7) Qk))) (Qbl Z.z_list (YO (Qb 4) (J5 (Qb 8)) Ye))) (Qc (Qb 5) Qk)))))))))))))))))))),hm,F.kp,F.binds (ps:=["_law_m", "_law_shape_here"]) (fun _ _ _ _ _ _ us hl=>by obtain⟨_,_,rfl⟩:=L3.len2 hl; rfl)⟩,QH _ _ _⟩
theorem YZ (Z:Zk K mg ca):FnH P w K mg base ca "_law_refused" 8 2 Zc:=by
 obtain⟨f,fd,F,hm⟩:=Z.u_L_refused
 exact⟨⟨f,fd,["_law_shape_here", "_law_count"],ZI F sc_L_refused rfl rfl (fun cdv A outer s H E hr=>(Qg (QY 2 sc_L_refused.nd QcD)
 (Qg (Qir 3 sc_L_refused.nd Z.t_TapeError (Qo (r_if (QkT (Qb 1) QcD) (Qo (ZS (Qu (JI Z) (hr.mono (by omega)) (Qc (Qb 0) Qk)))) (Qo (ZS (Qu (Js Z) (hr.mono (by omega)) (Qc (Qb 0) (Qc (Qb 1) Qk))))))) (fun a=>(Qo (QY 2 sc_L_refused.nd (Qb 3)))))
 (Qo (QT (Qu (QiZ Z) (hr.mono (by omega)) (Qc (Qb 2) (Qc Zh Qk)))))))),hm,F.kp,F.binds (ps:=["_law_shape_here", "_law_count"]) (fun _ _ _ _ _ _ us hl=>by obtain⟨_,_,rfl⟩:=L3.len2 hl; rfl)⟩,QH _ _ _⟩
theorem QeN (Z:Zk K mg ca):FnH P w K mg base ca "_law_round" 9 2 QaS:=by
 obtain⟨f,fd,F,hm⟩:=Z.u_L_round
 exact⟨⟨f,fd,["_law_script", "_law_at"],ZI F sc_L_round rfl rfl (fun cdv A outer s H E hr=>(Qg (QY 2 sc_L_round.nd (Qu (Yx Z) (hr.mono (by omega)) (Qc (Qb 0) (Qc (Qb 1) Qk))))
 (Qg (QY 3 sc_L_round.nd (Qu (QeM Z) (hr.mono (by omega)) (Qc (Qb 0) (Qc (Qb 1) (Qc (ZT Qi (Za (Qb 2) Qi)) (Qc (ZT Qi (Za (ZC (Qb 2) Qi) Qi)) Qk))))))
 (Qg (QY 4 sc_L_round.nd (Qb 3))
 (Qg (r_if (Jf hr (Za (ZC (Qb 2) Qi) Qi) Qi) (Qo (QY 4 sc_L_round.nd (Qu (Qgl Z) (hr.mono (by omega)) (Qc (Qb 3) Qk)))) QP)
 (Qg (QY 5 sc_L_round.nd (Qu (JI Z) (hr.mono (by omega)) (Qc (Qb 4) Qk)))
 (Qg (r_if (Z4 (ZB (Qu (Yy Z 6) (hr.mono (by omega)) (Qc (Qb 5) (Qc (Qu (Jt Z) (hr.mono (by omega)) (Qc (Qb 3) Qk)) Qk))))) (Qo (QT r_bl)) QP)
 (Qg (Qda rfl (Yl (ZR (Qc Qi (Qc Qi (Qc Qi (Qc Qi (Qc (Za (ZC (Qb 2) Qi) Qi) Qk))))))) (QG 6 sc_L_round.nd) (Qg (QY 7 sc_L_round.nd (Qu (Qc0 Z) (hr.mono (by omega)) (Qc (Qu (QcZ Z) (hr.mono (by omega)) (Qc (Qb 3) (Qc (Qb 6) Qk))) Qk)))
 (Qg (r_if (Z4 (ZB (Qu (Yy Z 6) (hr.mono (by omega)) (Qc (Qu (Js Z) (hr.mono (by omega)) (Qc (Qb 4) (Qc (Qb 6) Qk))) (Qc (Qb 7) Qk))))) (Qo (QT r_bl)) QP)
 (Qo (r_if (Z4 (ZB (Qu (Yy Z 6) (hr.mono (by omega)) (Qc (Qu (Js Z) (hr.mono (by omega)) (Qc (Qb 5) (Qc (Qb 6) Qk))) (Qc (Qu (Qc0 Z) (hr.mono (by omega)) (Qc (Qu (QcZ Z) (hr.mono (by omega)) (Qc (Qb 3) (Qc (ZT (Qb 6) Qi) Qk))) Qk)) Qk))))) (Qo (QT r_bl)) QP)))))
 (Qg (QY 8 sc_L_round.nd (Qu (Yx Z) (hr.mono (by omega)) (Qc (Qb 0) (Qc (Qb 1) Qk))))
 (Qg (QY 9 sc_L_round.nd (Qu (Qbg Z) (hr.mono (by omega)) (Qc (Qb 8) (Qc (Qb 4) Qk))))
 (Qg (r_if (r_w (QcE (Z4 (ZB (Qu (YZ Z) (hr.mono (by omega)) (Qc (Qb 9) (Qc QcD Qk))))) (QcE (Z4 (ZB (Qu (YZ Z) (hr.mono (by omega)) (Qc (Qb 9) (Qc (Za (Qb 8) Qi) Qk))))) (QaA (Z4 (ZB (Qu (YZ Z) (hr.mono (by omega)) (Qc (Qb 4) (Qc (Qib (QbL Qi) (Za (Qb 8) Qi)) Qk))))))))) (Qo (QT r_bl)) QP)
 (Qg (QY 10 sc_L_round.nd (Q3 (Qc (Qx (Qb 3) Qi) (Qc (Qx (Qb 3) Qi) (Qc (Qbl Z.z_list (Qx (Qb 3) Qi)) (Qc (Qbl Z.z_list (Qx (Qb 3) Qi)) Qk))))))
 (Qg (QY 5 sc_L_round.nd (Qu (JI Z) (hr.mono (by omega)) (Qc (Qb 10) Qk)))
 (Qg (ZS (Y1 (Qx (Qb 10) Qi) (Q3 (Qc Zh (Qc Qi Qk)))))
 (Qg (ZS (QiH (Qx (Qb 10) Qi)))
 (Qo (QT (Jl (Qu (Yy Z 6) (hr.mono (by omega)) (Qc (Qb 5) (Qc (Qu (Jt Z) (hr.mono (by omega)) (Qc (Qb 3) Qk)) Qk))) (QaB (Qu (Yy Z 6) (hr.mono (by omega)) (Qc (Qu (JI Z) (hr.mono (by omega)) (Qc (Qb 4) Qk)) (Qc (Qu (Jt Z) (hr.mono (by omega)) (Qc (Qb 3) Qk)) Qk)))))))))))))))))))))),hm,F.kp,F.binds (ps:=["_law_script", "_law_at"]) (fun _ _ _ _ _ _ us hl=>by obtain⟨_,_,rfl⟩:=L3.len2 hl; rfl)⟩,QH _ _ _⟩
theorem Qky (Z:Zk K mg ca) {f:Addr} {fd:FuncData} (F:Fun K "law" "law" Qdw f fd):FnOk P w K mg base (CXW P w ca) 10 f fd ["_law_script"] (spM K ca 1 QgY) :=
 ZI F sc_law rfl rfl (fun cdv A outer s H E hr=>(Qg (QY 1 sc_law.nd (ZR (Qc Qi Qk)))
 (Qg (Qda rfl (Qai Z.z_range (ZT Qi (ZC (YN Z.z_len (YO (Qb 0) Ye (J5 Qi))) Qi))) (QG 2 sc_law.nd) (Qo (r_if (Z4 (ZB (Qu (QeN Z) (hr.mono (by omega)) (Qc (Qb 0) (Qc (Qb 1) Qk))))) (Qo (QT r_bl)) QP)))
 (Qo (QT r_bl)))))
end
end V
end
section
namespace V
open PySem PySem.Spec PyProof.Rows L2 L3
noncomputable def caOf (l:List Nat) (n:Nat):Addr:=l.getD n 0
theorem z_mk {K:PySem.W.Frag} {h:Heap} {mg:Str->Option Value} (X:K.In h) (G:h.Ns mainGlobals mg) {C0 C1 C2 C3 C4 C5 C6 C7 C8 C9 C10:Addr} {oc1 kV1 dc1 pm1 cd1 ct1:Value} {od1 an1:Option Addr} {sl1:Array (Option Value)} {f1:Addr} {oc2 kV2 dc2 pm2 cd2 ct2:Value} {od2 an2:Option Addr} {sl2:Array (Option Value)} {f2:Addr} {oc3 kV3 dc3 pm3 cd3 ct3:Value} {od3 an3:Option Addr} {sl3:Array (Option Value)} {f3:Addr} {oc4 kV4 dc4 pm4 cd4 ct4:Value} {od4 an4:Option Addr} {sl4:Array (Option Value)} {f4:Addr} {oc5 kV5 dc5 pm5 cd5 ct5:Value} {od5 an5:Option Addr} {sl5:Array (Option Value)} {f5:Addr} {oc6 kV6 dc6 pm6 cd6 ct6:Value} {od6 an6:Option Addr} {sl6:Array (Option Value)} {f6:Addr} {oc7 kV7 dc7 pm7 cd7 ct7:Value} {od7 an7:Option Addr} {sl7:Array (Option Value)} {f7:Addr} {oc8 kV8 dc8 pm8 cd8 ct8:Value} {od8 an8:Option Addr} {sl8:Array (Option Value)} {f8:Addr} {oc9 kV9 dc9 pm9 cd9 ct9:Value} {od9 an9:Option Addr} {sl9:Array (Option Value)} {f9:Addr} {oc10 kV10 dc10 pm10 cd10 ct10:Value} {od10 an10:Option Addr} {sl10:Array (Option Value)} {f10:Addr} {oc11 kV11 dc11 pm11 cd11 ct11:Value} {od11 an11:Option Addr} {sl11:Array (Option Value)} {f11:Addr} {oc12 kV12 dc12 pm12 cd12 ct12:Value} {od12 an12:Option Addr} {sl12:Array (Option Value)} {f12:Addr} {oc13 kV13 dc13 pm13 cd13 ct13:Value} {od13 an13:Option Addr} {sl13:Array (Option Value)} {f13:Addr} {oc14 kV14 dc14 pm14 cd14 ct14:Value} {od14 an14:Option Addr} {sl14:Array (Option Value)} {f14:Addr} {oc15 kV15 dc15 pm15 cd15 ct15:Value} {od15 an15:Option Addr} {sl15:Array (Option Value)} {f15:Addr} {oc16 kV16 dc16 pm16 cd16 ct16:Value} {od16 an16:Option Addr} {sl16:Array (Option Value)} {f16:Addr} {oc17 kV17 dc17 pm17 cd17 ct17:Value} {od17 an17:Option Addr} {sl17:Array (Option Value)} {f17:Addr} {oc18 kV18 dc18 pm18 cd18 ct18:Value} {od18 an18:Option Addr} {sl18:Array (Option Value)} {f18:Addr} {oc19 kV19 dc19 pm19 cd19 ct19:Value} {od19 an19:Option Addr} {sl19:Array (Option Value)} {f19:Addr} {oc20 kV20 dc20 pm20 cd20 ct20:Value} {od20 an20:Option Addr} {sl20:Array (Option Value)} {f20:Addr} {oc21 kV21 dc21 pm21 cd21 ct21:Value} {od21 an21:Option Addr} {sl21:Array (Option Value)} {f21:Addr} {oc22 kV22 dc22 pm22 cd22 ct22:Value} {od22 an22:Option Addr} {sl22:Array (Option Value)} {f22:Addr} {oc23 kV23 dc23 pm23 cd23 ct23:Value} {od23 an23:Option Addr} {sl23:Array (Option Value)} {f23:Addr} {oc24 kV24 dc24 pm24 cd24 ct24:Value} {od24 an24:Option Addr} {sl24:Array (Option Value)} {f24:Addr} {oc25 kV25 dc25 pm25 cd25 ct25:Value} {od25 an25:Option Addr} {sl25:Array (Option Value)} {f25:Addr} {oc26 kV26 dc26 pm26 cd26 ct26:Value} {od26 an26:Option Addr} {sl26:Array (Option Value)} {f26:Addr} {oc27 kV27 dc27 pm27 cd27 ct27:Value} {od27 an27:Option Addr} {sl27:Array (Option Value)} {f27:Addr} {og_BLANK:_} {og_LEFT:_} {og_MANY:_} {og_ONE:_} {og_RIGHT:_}
    (c0:PySem.W.nsIn K mainGlobals "TapeError" = some (some (.ref C0)))
    (c1:PySem.W.nsIn K mainGlobals "NoMachine" = some (some (.ref C1)))
    (c2:PySem.W.nsIn K mainGlobals "NoNames" = some (some (.ref C2)))
    (c3:PySem.W.nsIn K mainGlobals "NoNumber" = some (some (.ref C3)))
    (c4:PySem.W.nsIn K mainGlobals "NoShot" = some (some (.ref C4)))
    (c5:PySem.W.nsIn K mainGlobals "NoStretches" = some (some (.ref C5)))
    (c6:PySem.W.nsIn K mainGlobals "TooLong" = some (some (.ref C6)))
    (c7:PySem.W.nsIn K mainGlobals "NoShape" = some (some (.ref C7)))
    (c8:PySem.W.nsIn K mainGlobals "NoMove" = some (some (.ref C8)))
    (c9:PySem.W.nsIn K mainGlobals "NoWidth" = some (some (.ref C9)))
    (c10:PySem.W.nsIn K mainGlobals "NoText" = some (some (.ref C10)))
    (a1:PySem.W.nsIn K mainGlobals "is_whole" = some (some (.ref f1)))
    (l1:K.lookup f1=some ⟨oc1,od1,.func (PySem.W.fnOf "is_whole" "is_whole" (QB ZY) (QA ZY) (Qe ZY) .none kV1 dc1 pm1 an1 cd1 ct1),sl1⟩)
    (d1:PySem.W.codeIn K cd1 "is_whole" = true)
    (k1:PySem.W.keepIn K (.ref f1)=true)
    (a2:PySem.W.nsIn K mainGlobals "is_from_nought" = some (some (.ref f2)))
    (l2:K.lookup f2=some ⟨oc2,od2,.func (PySem.W.fnOf "is_from_nought" "is_from_nought" (QB QV) (QA QV) (Qe QV) .none kV2 dc2 pm2 an2 cd2 ct2),sl2⟩)
    (d2:PySem.W.codeIn K cd2 "is_from_nought" = true)
    (k2:PySem.W.keepIn K (.ref f2)=true)
    (a3:PySem.W.nsIn K mainGlobals "is_word" = some (some (.ref f3)))
    (l3:K.lookup f3=some ⟨oc3,od3,.func (PySem.W.fnOf "is_word" "is_word" (QB Z9) (QA Z9) (Qe Z9) .none kV3 dc3 pm3 an3 cd3 ct3),sl3⟩)
    (d3:PySem.W.codeIn K cd3 "is_word" = true)
    (k3:PySem.W.keepIn K (.ref f3)=true)
    (a4:PySem.W.nsIn K mainGlobals "is_token" = some (some (.ref f4)))
    (l4:K.lookup f4=some ⟨oc4,od4,.func (PySem.W.fnOf "is_token" "is_token" (QB ZZ) (QA ZZ) (Qe ZZ) .none kV4 dc4 pm4 an4 cd4 ct4),sl4⟩)
    (d4:PySem.W.codeIn K cd4 "is_token" = true)
    (k4:PySem.W.keepIn K (.ref f4)=true)
    (a5:PySem.W.nsIn K mainGlobals "check_tokens" = some (some (.ref f5)))
    (l5:K.lookup f5=some ⟨oc5,od5,.func (PySem.W.fnOf "check_tokens" "check_tokens" (QB Q0) (QA Q0) (Qe Q0) .none kV5 dc5 pm5 an5 cd5 ct5),sl5⟩)
    (d5:PySem.W.codeIn K cd5 "check_tokens" = true)
    (k5:PySem.W.keepIn K (.ref f5)=true)
    (a6:PySem.W.nsIn K mainGlobals "check_shape" = some (some (.ref f6)))
    (l6:K.lookup f6=some ⟨oc6,od6,.func (PySem.W.fnOf "check_shape" "check_shape" (QB Zl) (QA Zl) (Qe Zl) .none kV6 dc6 pm6 an6 cd6 ct6),sl6⟩)
    (d6:PySem.W.codeIn K cd6 "check_shape" = true)
    (k6:PySem.W.keepIn K (.ref f6)=true)
    (a7:PySem.W.nsIn K mainGlobals "cells_of" = some (some (.ref f7)))
    (l7:K.lookup f7=some ⟨oc7,od7,.func (PySem.W.fnOf "cells_of" "cells_of" (QB Z0) (QA Z0) (Qe Z0) .none kV7 dc7 pm7 an7 cd7 ct7),sl7⟩)
    (d7:PySem.W.codeIn K cd7 "cells_of" = true)
    (k7:PySem.W.keepIn K (.ref f7)=true)
    (a8:PySem.W.nsIn K mainGlobals "laid_out" = some (some (.ref f8)))
    (l8:K.lookup f8=some ⟨oc8,od8,.func (PySem.W.fnOf "laid_out" "laid_out" (QB ZK) (QA ZK) (Qe ZK) .none kV8 dc8 pm8 an8 cd8 ct8),sl8⟩)
    (d8:PySem.W.codeIn K cd8 "laid_out" = true)
    (k8:PySem.W.keepIn K (.ref f8)=true)
    (a9:PySem.W.nsIn K mainGlobals "raised_token" = some (some (.ref f9)))
    (l9:K.lookup f9=some ⟨oc9,od9,.func (PySem.W.fnOf "raised_token" "raised_token" (QB Q8) (QA Q8) (Qe Q8) .none kV9 dc9 pm9 an9 cd9 ct9),sl9⟩)
    (d9:PySem.W.codeIn K cd9 "raised_token" = true)
    (k9:PySem.W.keepIn K (.ref f9)=true)
    (a10:PySem.W.nsIn K mainGlobals "raised_tokens" = some (some (.ref f10)))
    (l10:K.lookup f10=some ⟨oc10,od10,.func (PySem.W.fnOf "raised_tokens" "raised_tokens" (QB QS) (QA QS) (Qe QS) .none kV10 dc10 pm10 an10 cd10 ct10),sl10⟩)
    (d10:PySem.W.codeIn K cd10 "raised_tokens" = true)
    (k10:PySem.W.keepIn K (.ref f10)=true)
    (a11:PySem.W.nsIn K mainGlobals "raised" = some (some (.ref f11)))
    (l11:K.lookup f11=some ⟨oc11,od11,.func (PySem.W.fnOf "raised" "raised" (QB Y9) (QA Y9) (Qe Y9) .none kV11 dc11 pm11 an11 cd11 ct11),sl11⟩)
    (d11:PySem.W.codeIn K cd11 "raised" = true)
    (k11:PySem.W.keepIn K (.ref f11)=true)
    (a12:PySem.W.nsIn K mainGlobals "_law_next" = some (some (.ref f12)))
    (l12:K.lookup f12=some ⟨oc12,od12,.func (PySem.W.fnOf "_law_next" "_law_next" (QB Ja) (QA Ja) (Qe Ja) .none kV12 dc12 pm12 an12 cd12 ct12),sl12⟩)
    (d12:PySem.W.codeIn K cd12 "_law_next" = true)
    (k12:PySem.W.keepIn K (.ref f12)=true)
    (a13:PySem.W.nsIn K mainGlobals "_law_same" = some (some (.ref f13)))
    (l13:K.lookup f13=some ⟨oc13,od13,.func (PySem.W.fnOf "_law_same" "_law_same" (QB Yi) (QA Yi) (Qe Yi) .none kV13 dc13 pm13 an13 cd13 ct13),sl13⟩)
    (d13:PySem.W.codeIn K cd13 "_law_same" = true)
    (k13:PySem.W.keepIn K (.ref f13)=true)
    (a14:PySem.W.nsIn K mainGlobals "_law_word" = some (some (.ref f14)))
    (l14:K.lookup f14=some ⟨oc14,od14,.func (PySem.W.fnOf "_law_word" "_law_word" (QB YD) (QA YD) (Qe YD) .none kV14 dc14 pm14 an14 cd14 ct14),sl14⟩)
    (d14:PySem.W.codeIn K cd14 "_law_word" = true)
    (k14:PySem.W.keepIn K (.ref f14)=true)
    (a15:PySem.W.nsIn K mainGlobals "_law_tokens" = some (some (.ref f15)))
    (l15:K.lookup f15=some ⟨oc15,od15,.func (PySem.W.fnOf "_law_tokens" "_law_tokens" (QB ZL) (QA ZL) (Qe ZL) .none kV15 dc15 pm15 an15 cd15 ct15),sl15⟩)
    (d15:PySem.W.codeIn K cd15 "_law_tokens" = true)
    (k15:PySem.W.keepIn K (.ref f15)=true)
    (a16:PySem.W.nsIn K mainGlobals "_law_shape" = some (some (.ref f16)))
    (l16:K.lookup f16=some ⟨oc16,od16,.func (PySem.W.fnOf "_law_shape" "_law_shape" (QB Yu) (QA Yu) (Qe Yu) .none kV16 dc16 pm16 an16 cd16 ct16),sl16⟩)
    (d16:PySem.W.codeIn K cd16 "_law_shape" = true)
    (k16:PySem.W.keepIn K (.ref f16)=true)
    (a17:PySem.W.nsIn K mainGlobals "_law_cells" = some (some (.ref f17)))
    (l17:K.lookup f17=some ⟨oc17,od17,.func (PySem.W.fnOf "_law_cells" "_law_cells" (QB Yv) (QA Yv) (Qe Yv) .none kV17 dc17 pm17 an17 cd17 ct17),sl17⟩)
    (d17:PySem.W.codeIn K cd17 "_law_cells" = true)
    (k17:PySem.W.keepIn K (.ref f17)=true)
    (a18:PySem.W.nsIn K mainGlobals "_law_laid" = some (some (.ref f18)))
    (l18:K.lookup f18=some ⟨oc18,od18,.func (PySem.W.fnOf "_law_laid" "_law_laid" (QB Jb) (QA Jb) (Qe Jb) .none kV18 dc18 pm18 an18 cd18 ct18),sl18⟩)
    (d18:PySem.W.codeIn K cd18 "_law_laid" = true)
    (k18:PySem.W.keepIn K (.ref f18)=true)
    (a19:PySem.W.nsIn K mainGlobals "_law_shot" = some (some (.ref f19)))
    (l19:K.lookup f19=some ⟨oc19,od19,.func (PySem.W.fnOf "_law_shot" "_law_shot" (QB YE) (QA YE) (Qe YE) .none kV19 dc19 pm19 an19 cd19 ct19),sl19⟩)
    (d19:PySem.W.codeIn K cd19 "_law_shot" = true)
    (k19:PySem.W.keepIn K (.ref f19)=true)
    (a20:PySem.W.nsIn K mainGlobals "_law_kept" = some (some (.ref f20)))
    (l20:K.lookup f20=some ⟨oc20,od20,.func (PySem.W.fnOf "_law_kept" "_law_kept" (QB Jc) (QA Jc) (Qe Jc) .none kV20 dc20 pm20 an20 cd20 ct20),sl20⟩)
    (d20:PySem.W.codeIn K cd20 "_law_kept" = true)
    (k20:PySem.W.keepIn K (.ref f20)=true)
    (a21:PySem.W.nsIn K mainGlobals "_law_more" = some (some (.ref f21)))
    (l21:K.lookup f21=some ⟨oc21,od21,.func (PySem.W.fnOf "_law_more" "_law_more" (QB Jd) (QA Jd) (Qe Jd) .none kV21 dc21 pm21 an21 cd21 ct21),sl21⟩)
    (d21:PySem.W.codeIn K cd21 "_law_more" = true)
    (k21:PySem.W.keepIn K (.ref f21)=true)
    (a22:PySem.W.nsIn K mainGlobals "_law_raised" = some (some (.ref f22)))
    (l22:K.lookup f22=some ⟨oc22,od22,.func (PySem.W.fnOf "_law_raised" "_law_raised" (QB Z1) (QA Z1) (Qe Z1) .none kV22 dc22 pm22 an22 cd22 ct22),sl22⟩)
    (d22:PySem.W.codeIn K cd22 "_law_raised" = true)
    (k22:PySem.W.keepIn K (.ref f22)=true)
    (a23:PySem.W.nsIn K mainGlobals "_law_is" = some (some (.ref f23)))
    (l23:K.lookup f23=some ⟨oc23,od23,.func (PySem.W.fnOf "_law_is" "_law_is" (QB QbB) (QA QbB) (Qe QbB) .none kV23 dc23 pm23 an23 cd23 ct23),sl23⟩)
    (d23:PySem.W.codeIn K cd23 "_law_is" = true)
    (k23:PySem.W.keepIn K (.ref f23)=true)
    (a24:PySem.W.nsIn K mainGlobals "_law_bad_shape" = some (some (.ref f24)))
    (l24:K.lookup f24=some ⟨oc24,od24,.func (PySem.W.fnOf "_law_bad_shape" "_law_bad_shape" (QB Zm) (QA Zm) (Qe Zm) .none kV24 dc24 pm24 an24 cd24 ct24),sl24⟩)
    (d24:PySem.W.codeIn K cd24 "_law_bad_shape" = true)
    (k24:PySem.W.keepIn K (.ref f24)=true)
    (a25:PySem.W.nsIn K mainGlobals "_law_refused" = some (some (.ref f25)))
    (l25:K.lookup f25=some ⟨oc25,od25,.func (PySem.W.fnOf "_law_refused" "_law_refused" (QB ZM) (QA ZM) (Qe ZM) .none kV25 dc25 pm25 an25 cd25 ct25),sl25⟩)
    (d25:PySem.W.codeIn K cd25 "_law_refused" = true)
    (k25:PySem.W.keepIn K (.ref f25)=true)
    (a26:PySem.W.nsIn K mainGlobals "_law_round" = some (some (.ref f26)))
    (l26:K.lookup f26=some ⟨oc26,od26,.func (PySem.W.fnOf "_law_round" "_law_round" (QB Yw) (QA Yw) (Qe Yw) .none kV26 dc26 pm26 an26 cd26 ct26),sl26⟩)
    (d26:PySem.W.codeIn K cd26 "_law_round" = true)
    (k26:PySem.W.keepIn K (.ref f26)=true)
    (a27:PySem.W.nsIn K mainGlobals "law" = some (some (.ref f27)))
    (l27:K.lookup f27=some ⟨oc27,od27,.func (PySem.W.fnOf "law" "law" (QB Qdw) (QA Qdw) (Qe Qdw) .none kV27 dc27 pm27 an27 cd27 ct27),sl27⟩)
    (d27:PySem.W.codeIn K cd27 "law" = true)
    (k27:PySem.W.keepIn K (.ref f27)=true)
    (nz_ValueError:PySem.W.nsIn K mainGlobals "ValueError" = some none)
    (nz_all:PySem.W.nsIn K mainGlobals "all" = some none)
    (nz_bool:PySem.W.nsIn K mainGlobals "bool" = some none)
    (nz_dict:PySem.W.nsIn K mainGlobals "dict" = some none)
    (nz_enumerate:PySem.W.nsIn K mainGlobals "enumerate" = some none)
    (nz_int:PySem.W.nsIn K mainGlobals "int" = some none)
    (nz_isinstance:PySem.W.nsIn K mainGlobals "isinstance" = some none)
    (nz_len:PySem.W.nsIn K mainGlobals "len" = some none)
    (nz_list:PySem.W.nsIn K mainGlobals "list" = some none)
    (nz_range:PySem.W.nsIn K mainGlobals "range" = some none)
    (nz_sorted:PySem.W.nsIn K mainGlobals "sorted" = some none)
    (nz_str:PySem.W.nsIn K mainGlobals "str" = some none)
    (nz_tuple:PySem.W.nsIn K mainGlobals "tuple" = some none)
    (nz_zip:PySem.W.nsIn K mainGlobals "zip" = some none)
    (ng_BLANK:PySem.W.nsIn K mainGlobals "BLANK" = some (some (.int 0 og_BLANK)))
    (ng_LEFT:PySem.W.nsIn K mainGlobals "LEFT" = some (some (.str (Str.ofString "l") og_LEFT)))
    (ng_MANY:PySem.W.nsIn K mainGlobals "MANY" = some (some (.str (Str.ofString "many") og_MANY)))
    (ng_ONE:PySem.W.nsIn K mainGlobals "ONE" = some (some (.str (Str.ofString "one") og_ONE)))
    (ng_RIGHT:PySem.W.nsIn K mainGlobals "RIGHT" = some (some (.str (Str.ofString "r") og_RIGHT)))
    (nt_TapeError:catB K (caOf [C0,C1,C2,C3,C4,C5,C6,C7,C8,C9,C10]) C0 [0,1,2,3,4,5,6,7,8,9,10] []=true)
    (nx_NoMachine:isxB K (caOf [C0,C1,C2,C3,C4,C5,C6,C7,C8,C9,C10]) (.ref C1) [0,1,2,3,4,5,6,7,8,9,10] [1]=true)
    (nx_NoMove:isxB K (caOf [C0,C1,C2,C3,C4,C5,C6,C7,C8,C9,C10]) (.ref C8) [0,1,2,3,4,5,6,7,8,9,10] [8]=true)
    (nx_NoNames:isxB K (caOf [C0,C1,C2,C3,C4,C5,C6,C7,C8,C9,C10]) (.ref C2) [0,1,2,3,4,5,6,7,8,9,10] [2]=true)
    (nx_NoNumber:isxB K (caOf [C0,C1,C2,C3,C4,C5,C6,C7,C8,C9,C10]) (.ref C3) [0,1,2,3,4,5,6,7,8,9,10] [3]=true)
    (nx_NoShape:isxB K (caOf [C0,C1,C2,C3,C4,C5,C6,C7,C8,C9,C10]) (.ref C7) [0,1,2,3,4,5,6,7,8,9,10] [7]=true)
    (nx_NoShot:isxB K (caOf [C0,C1,C2,C3,C4,C5,C6,C7,C8,C9,C10]) (.ref C4) [0,1,2,3,4,5,6,7,8,9,10] [4]=true)
    (nx_NoStretches:isxB K (caOf [C0,C1,C2,C3,C4,C5,C6,C7,C8,C9,C10]) (.ref C5) [0,1,2,3,4,5,6,7,8,9,10] [5]=true)
    (nx_NoText:isxB K (caOf [C0,C1,C2,C3,C4,C5,C6,C7,C8,C9,C10]) (.ref C10) [0,1,2,3,4,5,6,7,8,9,10] [10]=true)
    (nx_NoWidth:isxB K (caOf [C0,C1,C2,C3,C4,C5,C6,C7,C8,C9,C10]) (.ref C9) [0,1,2,3,4,5,6,7,8,9,10] [9]=true)
    (nx_TooLong:isxB K (caOf [C0,C1,C2,C3,C4,C5,C6,C7,C8,C9,C10]) (.ref C6) [0,1,2,3,4,5,6,7,8,9,10] [6]=true)
    (nx_ValueError:isxB K (caOf [C0,C1,C2,C3,C4,C5,C6,C7,C8,C9,C10]) (.type "ValueError") [0,1,2,3,4,5,6,7,8,9,10] [0,1,2,3,4,5,6,7,8,9,10]=true)
    (ne_NoShape:PySem.W.excIn K C7 bmV "ValueError.__new__" = true):Zk K mg (caOf [C0,C1,C2,C3,C4,C5,C6,C7,C8,C9,C10]) :=
  ⟨PySem.W.mg_none_of X G nz_ValueError,
   PySem.W.mg_none_of X G nz_all,
   PySem.W.mg_none_of X G nz_bool,
   PySem.W.mg_none_of X G nz_dict,
   PySem.W.mg_none_of X G nz_enumerate,
   PySem.W.mg_none_of X G nz_int,
   PySem.W.mg_none_of X G nz_isinstance,
   PySem.W.mg_none_of X G nz_len,
   PySem.W.mg_none_of X G nz_list,
   PySem.W.mg_none_of X G nz_range,
   PySem.W.mg_none_of X G nz_sorted,
   PySem.W.mg_none_of X G nz_str,
   PySem.W.mg_none_of X G nz_tuple,
   PySem.W.mg_none_of X G nz_zip,
   ⟨_,PySem.W.mg_of X G ng_BLANK⟩,
   ⟨_,PySem.W.mg_of X G ng_LEFT⟩,
   ⟨_,PySem.W.mg_of X G ng_MANY⟩,
   ⟨_,PySem.W.mg_of X G ng_ONE⟩,
   ⟨_,PySem.W.mg_of X G ng_RIGHT⟩,
   ⟨PySem.W.mg_of X G c0,QjZ nt_TapeError⟩,
   ⟨PySem.W.mg_of X G c1,YQ nx_NoMachine⟩,
   ⟨PySem.W.mg_of X G c8,YQ nx_NoMove⟩,
   ⟨PySem.W.mg_of X G c2,YQ nx_NoNames⟩,
   ⟨PySem.W.mg_of X G c3,YQ nx_NoNumber⟩,
   ⟨PySem.W.mg_of X G c7,YQ nx_NoShape⟩,
   ⟨PySem.W.mg_of X G c4,YQ nx_NoShot⟩,
   ⟨PySem.W.mg_of X G c5,YQ nx_NoStretches⟩,
   ⟨PySem.W.mg_of X G c10,YQ nx_NoText⟩,
   ⟨PySem.W.mg_of X G c9,YQ nx_NoWidth⟩,
   ⟨PySem.W.mg_of X G c6,YQ nx_TooLong⟩,
   ⟨QbR,YQ nx_ValueError⟩,
   ⟨PySem.W.mg_of X G c7,ne_NoShape⟩,
   ⟨f1,_,Q2 (st:=ZY) l1 d1 k1,PySem.W.mg_of X G a1⟩,
   ⟨f2,_,Q2 (st:=QV) l2 d2 k2,PySem.W.mg_of X G a2⟩,
   ⟨f3,_,Q2 (st:=Z9) l3 d3 k3,PySem.W.mg_of X G a3⟩,
   ⟨f4,_,Q2 (st:=ZZ) l4 d4 k4,PySem.W.mg_of X G a4⟩,
   ⟨f5,_,Q2 (st:=Q0) l5 d5 k5,PySem.W.mg_of X G a5⟩,
   ⟨f6,_,Q2 (st:=Zl) l6 d6 k6,PySem.W.mg_of X G a6⟩,
   ⟨f7,_,Q2 (st:=Z0) l7 d7 k7,PySem.W.mg_of X G a7⟩,
   ⟨f8,_,Q2 (st:=ZK) l8 d8 k8,PySem.W.mg_of X G a8⟩,
   ⟨f9,_,Q2 (st:=Q8) l9 d9 k9,PySem.W.mg_of X G a9⟩,
   ⟨f10,_,Q2 (st:=QS) l10 d10 k10,PySem.W.mg_of X G a10⟩,
   ⟨f11,_,Q2 (st:=Y9) l11 d11 k11,PySem.W.mg_of X G a11⟩,
   ⟨f12,_,Q2 (st:=Ja) l12 d12 k12,PySem.W.mg_of X G a12⟩,
   ⟨f13,_,Q2 (st:=Yi) l13 d13 k13,PySem.W.mg_of X G a13⟩,
   ⟨f14,_,Q2 (st:=YD) l14 d14 k14,PySem.W.mg_of X G a14⟩,
   ⟨f15,_,Q2 (st:=ZL) l15 d15 k15,PySem.W.mg_of X G a15⟩,
   ⟨f16,_,Q2 (st:=Yu) l16 d16 k16,PySem.W.mg_of X G a16⟩,
   ⟨f17,_,Q2 (st:=Yv) l17 d17 k17,PySem.W.mg_of X G a17⟩,
   ⟨f18,_,Q2 (st:=Jb) l18 d18 k18,PySem.W.mg_of X G a18⟩,
   ⟨f19,_,Q2 (st:=YE) l19 d19 k19,PySem.W.mg_of X G a19⟩,
   ⟨f20,_,Q2 (st:=Jc) l20 d20 k20,PySem.W.mg_of X G a20⟩,
   ⟨f21,_,Q2 (st:=Jd) l21 d21 k21,PySem.W.mg_of X G a21⟩,
   ⟨f22,_,Q2 (st:=Z1) l22 d22 k22,PySem.W.mg_of X G a22⟩,
   ⟨f23,_,Q2 (st:=QbB) l23 d23 k23,PySem.W.mg_of X G a23⟩,
   ⟨f24,_,Q2 (st:=Zm) l24 d24 k24,PySem.W.mg_of X G a24⟩,
   ⟨f25,_,Q2 (st:=ZM) l25 d25 k25,PySem.W.mg_of X G a25⟩,
   ⟨f26,_,Q2 (st:=Yw) l26 d26 k26,PySem.W.mg_of X G a26⟩,
   ⟨f27,_,Q2 (st:=Qdw) l27 d27 k27,PySem.W.mg_of X G a27⟩⟩
theorem walk {l:PySem.W.OpenLaw} {p:Program} {loose:List Str} {XP:(Str->Option Value)->Heap->Prop} {YP:World->Heap->Prop} {d:DefRec} {K:Params->PySem.W.Frag} (C:List Nat) (hn:l.most=some 63) (hdf:d.params.defaults=[]) (hd:d.name = "law")
  (hY:∀(w:World) (h:Heap),YP w h->(K w.params).In h) (F:∀(w:World) (mg:Str->Option Value) (h:Heap),(K w.params).In h->h.Ns mainGlobals mg->Zk (K w.params) mg (caOf C))
  (M:∀ ns:List Int,ns.length≤63->∃ g',QgY [.fl (ns.map D.int)] []=.ok (.bl true) g'):PySem.W.WalkO p loose XP YP l.row.toRowW d [] (fun f vs=>PySem.call f vs):=by
 refine L2.walk_of (n:=63) (k:=10) (x:="_law_script") (CX:=fun w=>CXW l.prog w (caOf C)) (sp:=fun w=>spM (K w.params) (caOf C) 1 QgY) hn (by decide) hdf ⟨rfl,by decide,by decide⟩ hY (fun w mg fa h KX G hmg=>?_) (fun w H a ns hl hO hS=>Qj1 hO hS (M ns hl)) (fun w H s e s' z=>?_)
 ·have Z:=F w mg h KX G
  obtain⟨f,fd,Fu,hm⟩:=Z.u_law
  rw [hd] at hmg
  have e:=hmg.symm.trans hm
  cases e
  refine⟨fd,fun s u=>?_,fun base _ _=>Qky Z Fu⟩
  obtain⟨oc,od,kV,doc,pm,an,cdv,ct,osl,rfl,lk,hcd⟩:=Fu.ex
  exact .of_eq rfl
 ·obtain⟨_,_,_,_,_,_,_,_,_,_,z⟩:=z
  exact z
end V
end
section
namespace V
open PySem PySem.W PySem.W.X PySem.Spec PyProof.Rows
theorem walkX_of {as:List Addr} {K:Params->Frag} {n t:Nat} {q:Program} {loose:List Str} {XP:(Str->Option Value)->Heap->Prop} {r:RowW} {d:DefRec} {kwd:List (Str×PySem.Expr)} {run:Value->List Value->Sem Value}
  (e:∀ P,as=(K P).map (·.1)) (h:WalkO q loose XP (InK K) r d kwd run):WalkX q loose XP (obsZ as) (valZ K n t) r d kwd run :=
 fun w s₀ s₁ mg mb G y a o pm cd doc dV kV h1 h2 h3 h4 h5 h6 args vals as' L p1 p2 p3 p4 p5 =>
  h w s₀ s₁ mg mb G (InK.keeps w _ _ (z_facts e y).2.1 L.keeps) a o pm cd doc dV kV h1 h2 h3 h4 h5 h6 args vals as' p1 p2 p3 p4 p5
end V
end
noncomputable def PySem.W.Fast.tw5962002719914038838 : PySem.Program := PySem.Challenge.pw_tapeproof_k40_laid_out
theorem PySem.W.Fast.te5962002719914038838 : PySem.Challenge.pw_tapeproof_k40_laid_out = PySem.W.Fast.tw5962002719914038838 := rfl
def PySem.W.Fast.tw18233981240427266463 : Unit := ()
def PySem.W.Fast.tw6003122513582570341 : Unit := ()
def PySem.W.Fast.tw7398456939983367326 : Unit := ()
def PySem.W.Fast.tw5428922749223929447 : Unit := ()
def PySem.W.Fast.tw1747303150582778530 : Unit := ()
def PySem.W.Fast.tw17469416113662544588 : Unit := ()
def PySem.W.Fast.tw9095414625605194573 : Unit := ()
def PySem.W.Fast.tw8312057733612012820 : Unit := ()
def PySem.W.Fast.tw6892575108248542064 : Unit := ()
def PySem.W.Fast.tw11622991650554421225 : Unit := ()
def PySem.W.Fast.tw18047986795024918198 : Unit := ()
def PySem.W.Fast.tw1316671314812829122 : Unit := ()
def PySem.W.Fast.tw7985825818248858620 : Unit := ()
def PySem.W.Fast.tw5719901778872453121 : Unit := ()
def PySem.W.Fast.tw10009234138590586991 : Unit := ()
def PySem.W.Fast.tw11169492448308063288 : Unit := ()
def PySem.W.Fast.tw6053964796778845312 : Unit := ()
def PySem.W.Fast.tw11559200722716220197 : Unit := ()
def PySem.W.Fast.tw6484055263334305856 : Unit := ()
def PySem.W.Fast.tw6347312626957799886 : Unit := ()
def PySem.W.Fast.tw2408598776768023462 : Unit := ()
def PySem.W.Fast.tw2325520261346892608 : Unit := ()
def PySem.W.Fast.tw14141819860875045375 : Unit := ()
def PySem.W.Fast.tw3859094872381450684 : Unit := ()
def PySem.W.Fast.tw15310911455306762074 : Unit := ()
def PySem.W.Fast.tw3811367049367449962 : Unit := ()
def PySem.W.Fast.tw12825514045411565832 : Unit := ()
def PySem.W.Fast.tw8842153879455122609 : Unit := ()
def PySem.W.Fast.tw8924190578889821075 : Unit := ()
def PySem.W.Fast.tw13659364543264859150 : Unit := ()
def PySem.W.Fast.tw17966705346695596034 : Unit := ()
def PySem.W.Fast.tw10426138655443624912 : Unit := ()
def PySem.W.Fast.tw10695056845116820712 : Unit := ()
def PySem.W.Fast.tw6270194999086776613 : Unit := ()
def PySem.W.Fast.tw8149757492806123339 : Unit := ()
def PySem.W.Fast.tw2000744957930332273 : Unit := ()
def PySem.W.Fast.tw5535717246073360878 : Unit := ()
def PySem.W.Fast.tw13300285764693424682 : Unit := ()
def PySem.W.Fast.tw13589296869096589486 : Unit := ()
def PySem.W.Fast.tw15385282748888745165 : Unit := ()
def PySem.W.Fast.tw1369858614890683428 : Unit := ()
def PySem.W.Fast.tw17390417044231571477 : Unit := ()
def PySem.W.Fast.tw15469170026503626660 : Unit := ()
def PySem.W.Fast.tw1130318229369702071 : Unit := ()
def PySem.W.Fast.tw6735105476202251017 : Unit := ()
def PySem.W.Fast.tw8765151372920030981 : Unit := ()
open PySem PySem.W PyProof.Rows
set_option maxRecDepth 100000 in
set_option maxHeartbeats 0 in
theorem PySem.Challenge.cw_tapeproof_k40_laid_out_holds : PySem.Challenge.rw_tapeproof_k40_laid_out.Holds := by
  w_on; o_law; z_head; (case hw=>w_witness2)
  k_fill
  refine V.walkX_of (fun P=>?E) (V.walk (l:=PySem.Challenge.rw_tapeproof_k40_laid_out) [24,37,49,61,73,85,97,109,121,133,152] rfl rfl rfl (fun w h Y=>Y) ?F L3.law_true)
  case E=>kernel_rfl
  case F =>
    intro w mg h KX G
    refine' V.z_mk KX G ?c0 ?c1 ?c2 ?c3 ?c4 ?c5 ?c6 ?c7 ?c8 ?c9 ?c10 ?a1 ?l1 ?d1 ?k1 ?a2 ?l2 ?d2 ?k2 ?a3 ?l3 ?d3 ?k3 ?a4 ?l4 ?d4 ?k4 ?a5 ?l5 ?d5 ?k5 ?a6 ?l6 ?d6 ?k6 ?a7 ?l7 ?d7 ?k7 ?a8 ?l8 ?d8 ?k8 ?a9 ?l9 ?d9 ?k9 ?a10 ?l10 ?d10 ?k10 ?a11 ?l11 ?d11 ?k11 ?a12 ?l12 ?d12 ?k12 ?a13 ?l13 ?d13 ?k13 ?a14 ?l14 ?d14 ?k14 ?a15 ?l15 ?d15 ?k15 ?a16 ?l16 ?d16 ?k16 ?a17 ?l17 ?d17 ?k17 ?a18 ?l18 ?d18 ?k18 ?a19 ?l19 ?d19 ?k19 ?a20 ?l20 ?d20 ?k20 ?a21 ?l21 ?d21 ?k21 ?a22 ?l22 ?d22 ?k22 ?a23 ?l23 ?d23 ?k23 ?a24 ?l24 ?d24 ?k24 ?a25 ?l25 ?d25 ?k25 ?a26 ?l26 ?d26 ?k26 ?a27 ?l27 ?d27 ?k27 ?nz_ValueError ?nz_all ?nz_bool ?nz_dict ?nz_enumerate ?nz_int ?nz_isinstance ?nz_len ?nz_list ?nz_range ?nz_sorted ?nz_str ?nz_tuple ?nz_zip ?ng_BLANK ?ng_LEFT ?ng_MANY ?ng_ONE ?ng_RIGHT ?nt_TapeError ?nx_NoMachine ?nx_NoMove ?nx_NoNames ?nx_NoNumber ?nx_NoShape ?nx_NoShot ?nx_NoStretches ?nx_NoText ?nx_NoWidth ?nx_TooLong ?nx_ValueError ?ne_NoShape
    (case c0=>k_is); (case c1=>k_is); (case c2=>k_is); (case c3=>k_is); (case c4=>k_is); (case c5=>k_is)
    (case c6=>k_is); (case c7=>k_is); (case c8=>k_is); (case c9=>k_is); (case c10=>k_is); (case a1=>k_is)
    (case l1=>k_is); (case d1=>k_is); (case k1=>k_is); (case a2=>k_is); (case l2=>k_is); (case d2=>k_is)
    (case k2=>k_is); (case a3=>k_is); (case l3=>k_is); (case d3=>k_is); (case k3=>k_is); (case a4=>k_is)
    (case l4=>k_is); (case d4=>k_is); (case k4=>k_is); (case a5=>k_is); (case l5=>k_is); (case d5=>k_is)
    (case k5=>k_is); (case a6=>k_is); (case l6=>k_is); (case d6=>k_is); (case k6=>k_is); (case a7=>k_is)
    (case l7=>k_is); (case d7=>k_is); (case k7=>k_is); (case a8=>k_is); (case l8=>k_is); (case d8=>k_is)
    (case k8=>k_is); (case a9=>k_is); (case l9=>k_is); (case d9=>k_is); (case k9=>k_is); (case a10=>k_is)
    (case l10=>k_is); (case d10=>k_is); (case k10=>k_is); (case a11=>k_is); (case l11=>k_is); (case d11=>k_is)
    (case k11=>k_is); (case a12=>k_is); (case l12=>k_is); (case d12=>k_is); (case k12=>k_is); (case a13=>k_is)
    (case l13=>k_is); (case d13=>k_is); (case k13=>k_is); (case a14=>k_is); (case l14=>k_is); (case d14=>k_is)
    (case k14=>k_is); (case a15=>k_is); (case l15=>k_is); (case d15=>k_is); (case k15=>k_is); (case a16=>k_is)
    (case l16=>k_is); (case d16=>k_is); (case k16=>k_is); (case a17=>k_is); (case l17=>k_is); (case d17=>k_is)
    (case k17=>k_is); (case a18=>k_is); (case l18=>k_is); (case d18=>k_is); (case k18=>k_is); (case a19=>k_is)
    (case l19=>k_is); (case d19=>k_is); (case k19=>k_is); (case a20=>k_is); (case l20=>k_is); (case d20=>k_is)
    (case k20=>k_is); (case a21=>k_is); (case l21=>k_is); (case d21=>k_is); (case k21=>k_is); (case a22=>k_is)
    (case l22=>k_is); (case d22=>k_is); (case k22=>k_is); (case a23=>k_is); (case l23=>k_is); (case d23=>k_is)
    (case k23=>k_is); (case a24=>k_is); (case l24=>k_is); (case d24=>k_is); (case k24=>k_is); (case a25=>k_is)
    (case l25=>k_is); (case d25=>k_is); (case k25=>k_is); (case a26=>k_is); (case l26=>k_is); (case d26=>k_is)
    (case k26=>k_is); (case a27=>k_is); (case l27=>k_is); (case d27=>k_is); (case k27=>k_is); (case nz_ValueError=>k_is)
    (case nz_all=>k_is); (case nz_bool=>k_is); (case nz_dict=>k_is); (case nz_enumerate=>k_is); (case nz_int=>k_is); (case nz_isinstance=>k_is)
    (case nz_len=>k_is); (case nz_list=>k_is); (case nz_range=>k_is); (case nz_sorted=>k_is); (case nz_str=>k_is); (case nz_tuple=>k_is)
    (case nz_zip=>k_is); (case ng_BLANK=>k_is); (case ng_LEFT=>k_is); (case ng_MANY=>k_is); (case ng_ONE=>k_is); (case ng_RIGHT=>k_is)
    (case nt_TapeError=>kernel_rfl); (case nx_NoMachine=>kernel_rfl); (case nx_NoMove=>kernel_rfl); (case nx_NoNames=>kernel_rfl); (case nx_NoNumber=>kernel_rfl); (case nx_NoShape=>kernel_rfl)
    (case nx_NoShot=>kernel_rfl); (case nx_NoStretches=>kernel_rfl); (case nx_NoText=>kernel_rfl); (case nx_NoWidth=>kernel_rfl); (case nx_TooLong=>kernel_rfl); (case nx_ValueError=>kernel_rfl)
    (case ne_NoShape=>k_exc)
