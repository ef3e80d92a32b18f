import PyProof.Rows.All
import Wide.All
import OpenK.AllK
import Wide.FinOn
import Lean
import PyProof.EqAt
import PyProof.EqKinds
import PyProof.TupleCall
import PySem.Challenge.RW_tapeproof_k41_moves_told
local macro_rules | `(tactic| omega) => `(tactic| lia)
set_option Elab.async false
set_option linter.all false
set_option maxRecDepth 100000
abbrev Ua:=@PySem.wpAny_bind
abbrev Ub:=@PySem.Heap.get?_push_of_some
abbrev Uc:=@Bool.false_ne_true
abbrev Ud:=@List.length_map
abbrev Ue:=@List.size_toArray
abbrev Uf:=@List.getElem?_eq_some_iff
abbrev Ug:=@List.mem_singleton
abbrev Uh:=@if_pos
abbrev Ui:=@List.mem_cons
abbrev Uj:=@PySem.wpAny_pure
abbrev Uk:=@PySem.Heap.lt_size
abbrev Ul:=@Nat.le_refl
abbrev Um:=@if_neg
abbrev Uo:=@decide_eq_false
abbrev Up:=@List.mem_append
abbrev Uq:=@List.getElem?_set_ne
abbrev Ur:=@PySem.Heap.get?_push_size
abbrev Us:=@List.all_eq_true
abbrev Ut:=@List.length_append
abbrev Uu:=@Bool.and_eq_true
abbrev Uv:=@List.mem_append_right
abbrev Uw:=@Nat.le_trans
abbrev Ux:=@Nat.lt_of_lt_of_le
abbrev Uy:=@decide_eq_true
abbrev Uz:=@List.mem_cons_of_mem
abbrev UA:=@PySem.W.mg_of
abbrev UB:=@List.getElem?_map
abbrev UC:=@List.getElem?_append_left
abbrev UD:=@Int.emod_nonneg
abbrev UE:=@PySem.W.mg_none_of
abbrev UG:=@List.getElem?_eq_getElem
abbrev UH:=@List.mem_cons_self
abbrev UI:=@Nat.ne_of_lt
abbrev UJ:=@List.getElem?_append_right
abbrev UK:=@PySem.wpAny_field
abbrev UL:=@Int.emod_lt_of_pos
abbrev UM:=@List.replicate_succ
abbrev UN:=@PySem.W.kia_one
abbrev UO:=@List.length_set
abbrev UP:=@PyProof.Rows.slot_tuple_getitem
abbrev UQ:=@List.length_cons
abbrev UR:=@List.getElem_mem
abbrev US:=@List.length_replicate
abbrev UT:=@List.take_succ_eq_append_getElem
abbrev UU:=@Nat.le_of_lt
abbrev UV:=@PySem.wpAny_mono
abbrev UW:=@List.append_nil
abbrev UX:=@List.getElem?_set_self
abbrev UY:=@List.map_cons
abbrev UZ:=@PySem.Heap.get?_update_other
abbrev U0:=@beq_iff_eq
abbrev U1:=@List.map_append
abbrev U2:=@PySem.wpAny_callSpecial?_slot
abbrev U3:=@List.mem_of_getElem?
abbrev U4:=@Nat.lt_succ_self
abbrev U5:=@Array.getElem?_eq_some_iff
abbrev U6:=@PySem.wpAny_newObj_type
abbrev U7:=@of_decide_eq_true
abbrev U8:=@PySem.Heap.size_push
abbrev U9:=@List.mem_map
abbrev Ta:=@List.getElem?_eq_none_iff
abbrev Tc:=@List.length_take
abbrev Td:=@Option.isSome_iff_exists
abbrev Te:=@List.mem_append_left
abbrev Tf:=@PySem.W.kia_tup
abbrev Tg:=@beq_eq_false_iff_ne
abbrev Th:=@List.filterMap_cons
abbrev Ti:=@Array.length_toList
abbrev Tj:=@PySem.mem_of_lookup
abbrev Tl:=@Nat.lt_irrefl
abbrev Tn:=@beq_self_eq_true
abbrev To:=@PySem.F.slot_tuple_iterator_next
abbrev Tp:=@PySem.wpAny_setField_rec
abbrev Tq:=@PySem.wpAny_seqItems
abbrev Tr:=@PySem.wpAny_passesOwn
abbrev Ts:=@PySem.wpAny_truthy_bool
abbrev Tt:=@List.flatten_cons
abbrev Tu:=@PySem.wpAny_holding
abbrev Tv:=@List.any_cons
abbrev Tw:=@List.getElem?_replicate
abbrev Tx:=@PySem.wpAny_call_entry
abbrev Tz:=@List.dropLast_eq_take
abbrev TB:=@List.eq_nil_or_concat
abbrev TC:=@PyProof.Rows.callWith_type1
abbrev TD:=@List.all_cons
abbrev TF:=@PySem.W.kitx_list
abbrev TH:=@List.append_assoc
abbrev TJ:=@decide_eq_true_eq
abbrev TK:=@Bool.and_eq_true_iff
abbrev TL:=@Bool.and_false
abbrev TM:=@PySem.F.slot_tuple_mul
abbrev TN:=@List.take_length
abbrev TQ:=@PySem.F.args_tuple_add_2
abbrev TR:=@PySem.wpAny_Call_Name_kw
abbrev TU:=@PySem.Obj.data_mapFields
abbrev TV:=@Bool.false_eq_true
abbrev TW:=@PySem.F.entry_tuple_add
abbrev TX:=@List.getElem?_cons_succ
abbrev TY:=@List.getElem?_cons_zero
abbrev TZ:=@List.set_eq_take_append_cons_drop
abbrev T0:=@PySem.call_meets
abbrev T1:=@PySem.F.slot_tuple_add
abbrev T3:=@List.take_of_length_le
abbrev T4:=@Int.toNat_natCast
abbrev T5:=@Bool.false_and
abbrev T6:=@PySem.wpAny_setField
abbrev T7:=@PySem.Heap.get?_update_self
abbrev T8:=@if_true
abbrev T9:=@List.length_drop
abbrev Ra:=@Nat.le_of_not_lt
abbrev Rb:=@PySem.AutoSeq1.idx_int
abbrev Rc:=@List.filter_cons
abbrev Re:=@PySem.W.looks_findIn
abbrev Rf:=@PySem.wpAny_updateSeq_pair
abbrev Rg:=@List.mem_of_mem_take
abbrev Rh:=@PySem.sizeLine_eq
abbrev Ri:=@PySem.F.args_tuple_iterator_next_1
abbrev Rj:=@PySem.wpAny_execs_nil
abbrev Rk:=@List.nodup_cons
abbrev Rl:=@PySem.SeqAt.EqAt.same
abbrev Rm:=@List.forIn_cons
abbrev Rn:=@PySem.F.slot_zip_next
abbrev Ro:=@PyProof.Rows.boot_isinstance
abbrev Rq:=@List.find?_cons
abbrev Rr:=@if_false
abbrev Rs:=@PySem.W.looks_subIn
abbrev Rt:=@Bool.or_eq_true_iff
abbrev Ru:=@List.length_pos_iff
abbrev Rv:=@PySem.F.entry_tuple_iterator_next
abbrev Rw:=@Nat.ne_of_gt
abbrev Rx:=@PySem.Calls.Name_function_global
abbrev Ry:=@PySem.F.excBase_ValueError
abbrev Rz:=@PySem.SeqAt.EqAt.int_str
abbrev RA:=@PySem.SeqAt.EqAt.str_int
abbrev RB:=@Array.append_assoc
abbrev RC:=@List.mem_filterMap
abbrev RD:=@PySem.W.kitx_tuple
abbrev RE:=@PySem.F.args_tuple_mul_2
abbrev RF:=@PySem.wpAny_pyIter_tuple
abbrev RG:=@List.mem_range
abbrev RH:=@List.forIn_nil
abbrev RI:=@Int.mul_nonneg
abbrev RJ:=@List.mem_or_eq_of_mem_set
abbrev RK:=@PySem.W.kitx_dict
abbrev RL:=@PySem.F.entry_tuple_mul
abbrev RM:=@PySem.wpAny_pyIter_list
abbrev RO:=@Bool.or_false
abbrev RP:=@PySem.wpAny_onRaise
abbrev RQ:=@PySem.wpAny_attempt
abbrev RS:=@PySem.F.plainAttrs_list
abbrev RT:=@List.getElem_inj
abbrev RU:=@PySem.noFill_tuple_add
abbrev RV:=@Option.getD_some
abbrev RW:=@PySem.W.cellsFrom_some
abbrev RZ:=@PySem.codeAny_mono
abbrev R0:=@List.set_set
abbrev Wa:=@List.of_mem_zip
abbrev Wb:=@PySem.wpAny_ite_false
abbrev Wc:=@List.length_singleton
abbrev Wf:=@List.getElem?_eq_none
abbrev Wn:=@List.mem_of_mem_drop
abbrev Wo:=@List.mem_of_mem_tail
abbrev Wp:=@PySem.wpAny_loadPart
abbrev Wq:=@PySem.wpAny_of_eq
abbrev Wr:=@congrArg
abbrev WT:=@PySem.wpAny_call
abbrev WU:=@PySem.wpAny_rule
abbrev Bq:=@Nat.zero_le
open PySem.W (Frag InitBack KitX Looks any_some bind_fn callWith_K cellsFrom_some class_get clsIn codeIn codeRec_of emptyDict excIn findIn findObj findObj_own fnOf get_value handedIn hasDictIn hideAll hideAll_get hideAll_none hideAll_size instObj isFn isNs_of_in keepIn ki_setAt ki_setBack kia_one kia_tup kitAny kitOne kitx_bool kitx_dict kitx_float kitx_int kitx_list kitx_none kitx_own kitx_str kitx_tuple lookIn looks_clsIn looks_find looks_findIn looks_subIn looks_typeIn make_core makesIn makes_of methodObj mg_none_of mg_of mroIn nsIn nsMap_none_of_in of_hideAll osa_open plainGet plainGet_of plainOver set_plain specialIn subIn tail_of_in takerIn takesIn typeIn)
namespace L2
open PySem PySem.Spec PyProof.Rows
section
noncomputable abbrev Key:=Sum Int Str
noncomputable def Ql4:Key->Value->Bool
 |.inl k,v=>Value.isInt k v
 |.inr x,v=>Value.isStrOf x v
noncomputable def keyH(w:World):Key->Int
 |.inl k=>hashInt k
 |.inr x=>hashStr w x
theorem ZJ:∀{k:Key}{v:Value},Ql4 k v=true->(∃i t,k=Sum.inl i/\v=Value.int i t)\/(∃x t,k=Sum.inr x/\v=Value.str x t)
 |.inl i,v,h=>by
  obtain⟨t,e⟩:=Value.isInt_shape (k:=i) (v:=v) h
  exact .inl ⟨i,t,rfl,e⟩
 |.inr x,v,h=>by
  obtain⟨t,e⟩:=Value.isStrOf_shape (x:=x) (v:=v) h
  exact .inr ⟨x,t,rfl,e⟩
theorem Ql5(a b:Int):decide ((Sum.inl a:Key)=Sum.inl b)=(a == b):=by
 by_cases e:a=b
 ·subst e;simp
 ·have h:¬(Sum.inl a:Key)=Sum.inl b:=λq=>e (Sum.inl.inj q)
  rw[Uo h]
  exact(Tg.mpr e).symm
theorem Ql6(a b:Str):decide ((Sum.inr a:Key)=Sum.inr b)=decide (a=b):=by
 by_cases e:a=b
 ·subst e;simp
 ·have h:¬(Sum.inr a:Key)=Sum.inr b:=λq=>e (Sum.inr.inj q)
  rw[Uo h,Uo e]
theorem Ql7(a:Int)(b:Str):decide ((Sum.inl a:Key)=Sum.inr b)=false:=Uo (λq=>nomatch q)
theorem Ql8(a:Str)(b:Int):decide ((Sum.inr a:Key)=Sum.inl b)=false:=Uo (λq=>nomatch q)
noncomputable def Qhv(prog:Program)(w:World):PySem.KeyKind prog w Key where
 is:=Ql4
 hash:=keyH w
 inj:=λv a b ha hb=>by
  rcases ZJ ha with⟨i,t,rfl,rfl⟩|⟨x,t,rfl,rfl⟩
  ·rcases ZJ hb with⟨j,u,rfl,e⟩|⟨y,u,rfl,e⟩
   ·injection e with e1 _;rw[e1]
   ·exact nomatch e
  ·rcases ZJ hb with⟨j,u,rfl,e⟩|⟨y,u,rfl,e⟩
   ·exact nomatch e
   ·injection e with e1 _;rw[e1]
 byValue:=λk v h=>by
  rcases ZJ h with⟨i,t,rfl,rfl⟩|⟨x,t,rfl,rfl⟩ <;> rfl
 pyHash:=λhv h=>by
  rcases ZJ hv with⟨i,t,rfl,rfl⟩|⟨x,t,rfl,rfl⟩
  ·exact wpAny_pyHash_int h
  ·exact wpAny_pyHash_str h
 eqBool:=λhu hv h=>by
  rcases ZJ hu with⟨i,t,rfl,rfl⟩|⟨x,t,rfl,rfl⟩
  ·rcases ZJ hv with⟨j,u,rfl,rfl⟩|⟨y,u,rfl,rfl⟩
   ·rw[Ql5]at h;exact wpAny_eqBool_int h
   ·rw[Ql7]at h;exact Rz i t y u _ _ _ _ h
  ·rcases ZJ hv with⟨j,u,rfl,rfl⟩|⟨y,u,rfl,rfl⟩
   ·rw[Ql8]at h;exact RA x t j u _ _ _ _ h
   ·rw[Ql6]at h;exact wpAny_eqBool_str h
 «strs»:=λk x t v h=>by
  rcases ZJ h with⟨i,u,rfl,e⟩|⟨y,u,rfl,e⟩
  ·exact nomatch e
  ·injection e with e1 _
   subst e1
   cases v <;> rfl
end
section
inductive V where
 |non|bl (b:Bool)|int (i:Int)|str (x:Str)|byt (b:Array UInt8)|flt (b:UInt64)|ref (a:Addr)|ty (n:String)
 deriving DecidableEq
noncomputable def RelV:V->Value->Prop
 |.non,u=>u=Value.none
 |.bl b,u=>u=Value.bool b
 |.int i,u=>∃t,u=Value.int i t
 |.str x,u=>∃t,u=Value.str x t
 |.byt b,u=>∃t,u=Value.bytes b t
 |.flt b,u=>∃t,u=Value.float b t
 |.ref a,u=>u=Value.ref a
 |.ty n,u=>u=Value.type n
noncomputable abbrev Vals:List V->List Value->Prop:=Paired RelV
theorem Vals.length{xs:List V}{us:List Value}(r:Vals xs us):xs.length=us.length:=Paired.length r
theorem Vals.get:∀{xs:List V}{us:List Value}{i:Nat}{x:V},Vals xs us->xs[i]?=some x->∃u,us[i]?=some u/\RelV x u
 |_,_,_,_,.nil,e=>by simp at e
 |_,_,0,_,.cons r _,e=>by simp at e;subst e;exact⟨_,rfl,r⟩
 |_,_,i+1,x,.cons _ t,e=>by
  obtain⟨u,h1,h2⟩:=Vals.get (i:=i) (x:=x) t (by simpa using e)
  exact⟨u,by simpa using h1,h2⟩
theorem Vals.set{x:V}{u:Value}(r:RelV x u):∀{xs:List V}{us:List Value}(i:Nat),Vals xs us->Vals (xs.set i x) (us.set i u)
 |_,_,_,.nil=>.nil
 |_,_,0,.cons _ t=>.cons r t
 |_,_,i+1,.cons q t=>.cons q (Vals.set r i t)
theorem Vals.append:∀{xs ys:List V}{us ws:List Value},Vals xs us->Vals ys ws->Vals (xs++ys) (us++ws)
 |_,_,_,_,.nil,s=>s
 |_,_,_,_,.cons r t,s=>.cons r (Vals.append t s)
theorem Vals.take:∀{xs:List V}{us:List Value}(n:Nat),Vals xs us->Vals (xs.take n) (us.take n)
 |_,_,0,_=>.nil
 |_,_,_+1,.nil=>.nil
 |_,_,n+1,.cons r t=>.cons r (Vals.take n t)
theorem Vals.drop:∀{xs:List V}{us:List Value}(n:Nat),Vals xs us->Vals (xs.drop n) (us.drop n)
 |_,_,0,r=>r
 |_,_,_+1,.nil=>.nil
 |_,_,n+1,.cons _ t=>Vals.drop n t
noncomputable def RelO:Option V->Option Value->Prop
 |some v,some u=>RelV v u
 |none,none=>True
 |_,_=>False
noncomputable def KV{κ:Type}:List (κ×V)->List (κ×Value)->Prop:=Paired λ(p:κ×V)(q:κ×Value)=>p.1=q.1/\RelV p.2 q.2
noncomputable def kV:Key->V
 |.inl i=>.int i
 |.inr x=>.str x
inductive HO where
 /-- a list -/
 |lst (xs:List V)
 /-- a tuple (never changes) -/
 |tup (xs:List V)
 /-- a dict whose keys are ints and texts;one whose keys are tuples of ints and texts (the empty one is both) -/
 |dK (kvs:List (Key×V))|dT (kvs:List (List Key×V))
 /-- a set of ints: its members,its size -/
 |set (S:Int->Bool) (n:Nat)
 /-- an instance of the class at C,its dict at dx,its attributes -/
 |ins (C dx:Addr) (fs:List (Str×V))
 /-- the dict of the instance at x -/
 |own (x:Addr)
 /-- the dict of an exception -/
 |xd (fs:List (Str×V))
 /-- a bound method,f of x -/
 |met (f x:Addr)
 /-- a range object lo,lo+1,.. below hi -/
 |rng (lo hi:Int)
 /-- a thing that is known to the object (the script;a dict while a loop walks it): read,never written while it is so -/
 |frz (o:Obj) (u:HO)
 /-- a code object's table -/
 |tbl (ps:Array Value)
 /-- any other thing,by what is true of its one object (a def of one's own: SetO a S n:=HO.ext λh=>..) -/
 |ext (φ:Heap->Prop)
noncomputable abbrev Hp:=Addr->Option HO
noncomputable def upd(H:Hp)(a:Addr)(o:HO):Hp:=λb=>if b=a then some o else H b
theorem QN{H:Hp}{a:Addr}{o:HO}:upd H a o a=some o:=by unfold upd;rw[Uh rfl]
theorem QP{H:Hp}{a b:Addr}{o:HO}(h:b≠a):upd H a o b=H b:=by unfold upd;rw[Um h]
theorem QkP{H:Hp}{a b:Addr}{o u:HO}(h:H a=some o)(h':H b=some u)(d:o≠u):a≠b:=by
 intro e;subst e;rw[h]at h';exact d (Option.some.inj h')
theorem Zg{H:Hp}{a b:Addr}{o:HO}(h:H a=some o)(h':H b=none):a≠b:=by
 intro e;subst e;rw[h]at h';cases h'
section
variable(P:Program)(w:World)
noncomputable def ObjOk(H:Hp)(h:Heap)(a:Addr):HO->Prop
 |.lst xs=>xs.length<=sizeLine/\∃(its:List Value)(n:Nat),Vals xs its/\h.get? a=some {cls:=.type "list",data:=.seq its.toArray n}
 |.tup xs=>xs.length<=sizeLine/\∃its:List Value,Vals xs its/\IsTup h a its.toArray
 |.dK kvs=>kvs.length<=sizeLine/\(a == sysModules)=false/\∃vs,KV kvs vs/\h.DictOf (Qhv P w) a vs
 |.dT kvs=>kvs.length<=sizeLine/\(a == sysModules)=false/\∃xs:List (List Key×Addr×Value),
   Paired (λ(p:List Key×V)(q:List Key×Addr×Value)=>p.1=q.1/\H q.2.1=some (.tup (p.1.map kV))/\RelV p.2 q.2.2) kvs xs /\
   ∃o es ep,h.get? a=some o/\o.ExactDict/\o.data=.dict es ep/\es.toList=xs.map (entryOfKey (tupleKind (Qhv P w)))/\(xs.map (·.1)).Nodup
 |.set S n=>h.SetOf (intKind P w) a S n
 |.ins C dx fs=>H dx=some (.own a)/\fs.length<=1000/\dx≠a/\h.get? a=some (instObj C dx) /\
   ∃mA,h.Ns1 dx mA/\(∀f,RelO (fs.lookup f) (mA f))/\PySem.Within mA (fs.map (·.1))
 |.own _=>∃o,h.get? a=some o
 |.xd fs=>∃mA,h.Ns1 a mA/\∀f,RelO (fs.lookup f) (mA f)
 |.rng lo hi=>∃t u v,h.get? a=some {cls:=.type "range",data:=.fields #[.int lo t,.int hi u,.int 1 v]}
 |.frz o u=>h.get? a=some o/\ObjOk H h a u
 |.tbl ps=>h.get? a=some {cls:=.none,data:=.fields ps}
 |.met f x=>h.get? a=some (methodObj (.ref f) (.ref x))
 |.ext φ=>φ h/\(∃o,h.get? a=some o)/\∀h1 h2:Heap,φ h1->(∀o,h1.get? a=some o->h2.get? a=some o)->φ h2
def HOk(H:Hp)(h:Heap):Prop:=∀a o,H a=some o->ObjOk P w H h a o
end
section
variable{P:Program}{w:World}{H H':Hp}{h h':Heap}{a:Addr}{o:HO}
theorem ObjOk.lt(x:ObjOk P w H h a o):a<h.objs.size:=by
 cases o with
 |lst xs=>obtain⟨_,_,_,_,e⟩:=x;exact Uk e
 |tup xs=>obtain⟨_,_,_,p⟩:=x;exact p.lt
 |dK kvs=>obtain⟨_,_,_,_,o,_,_,e,_⟩:=x;exact Uk e
 |dT kvs=>obtain⟨_,_,_,_,o,_,_,e,_⟩:=x;exact Uk e
 |set S n=>obtain⟨o,_,_,_,e,_⟩:=x;exact Uk e
 |ins C dx fs=>obtain⟨_,_,_,e,_⟩:=x;exact Uk e
 |own y=>obtain⟨_,e⟩:=x;exact Uk e
 |xd fs=>obtain⟨_,⟨_,_,_,e,_⟩,_⟩:=x;exact Uk e
 |rng lo hi=>obtain⟨_,_,_,e⟩:=x;exact Uk e
 |frz ob u=>obtain⟨e,_⟩:=x;exact Uk e
 |tbl ps=>exact Uk (show h.get? a=some _ from x)
 |met f y=>exact Uk (show h.get? a=some _ from x)
 |ext φ=>obtain⟨_,⟨_,e⟩,_⟩:=x;exact Uk e
theorem Paired.mapP{α β:Type}{F G:α->β->Prop}:∀{l₁:List α}{l₂:List β},Paired F l₁ l₂->(∀a b,F a b->G a b)->Paired G l₁ l₂
 |_,_,.nil,_=>.nil
 |_,_,.cons r t,f=>.cons (f _ _ r) (Paired.mapP t f)
theorem Paired.imp'{α β:Type}{F G:α->β->Prop}(f:∀a b,F a b->G a b){l₁:List α}{l₂:List β}(r:Paired F l₁ l₂):Paired G l₁ l₂:=Paired.mapP r f
theorem ObjOk.stay(x:ObjOk P w H h a o)(k:∀b u,(b=a\/H b=some (.own a))->h.get? b=some u->h'.get? b=some u)(ho:∀b,H b=some (.own a)->H' b=some (.own a))(ht:∀b xs,H b=some (.tup xs)->H' b=some (.tup xs)):ObjOk P w H' h' a o:=by
 induction o with
 |lst xs=>obtain⟨z,its,n,r,e⟩:=x;exact⟨z,its,n,r,k _ _ (.inl rfl) e⟩
 |tup xs=>obtain⟨z,its,r,ob,e,c⟩:=x;exact⟨z,its,r,ob,k _ _ (.inl rfl) e,c⟩
 |dK kvs=>obtain⟨z,y,vs,r,ob,es,ep,e,c⟩:=x;exact⟨z,y,vs,r,ob,es,ep,k _ _ (.inl rfl) e,c⟩
 |dT kvs =>
  obtain⟨z,y,xs,r,ob,es,ep,e,c⟩:=x
  exact⟨z,y,xs,Paired.mapP r λp q z=>⟨z.1,ht _ _ z.2.1,z.2.2⟩,ob,es,ep,k _ _ (.inl rfl) e,c⟩
 |set S n=>obtain⟨ob,es,ep,t,e,c⟩:=x;exact⟨ob,es,ep,t,k _ _ (.inl rfl) e,c⟩
 |ins C dx fs =>
  obtain⟨d,z,ne,e,mA,⟨od,es,ep,e2,c⟩,r⟩:=x
  exact⟨ho _ d,z,ne,k _ _ (.inl rfl) e,mA,⟨od,es,ep,k _ _ (.inr d) e2,c⟩,r⟩
 |own y=>obtain⟨ob,e⟩:=x;exact⟨ob,k _ _ (.inl rfl) e⟩
 |xd fs=>obtain⟨mA,⟨od,es,ep,e,c⟩,r⟩:=x;exact⟨mA,⟨od,es,ep,k _ _ (.inl rfl) e,c⟩,r⟩
 |rng lo hi=>obtain⟨t,u,v,e⟩:=x;exact⟨t,u,v,k _ _ (.inl rfl) e⟩
 |frz ob u ih=>obtain⟨e,q⟩:=x;exact⟨k _ _ (.inl rfl) e,ih q⟩
 |tbl ps =>
  have e:h.get? a=some {cls:=.none,data:=.fields ps}:=x
  show h'.get? a=some {cls:=.none,data:=.fields ps}
  exact k a _ (.inl rfl) e
 |met f y =>
  have e:h.get? a=some (methodObj (.ref f) (.ref y)):=x
  show h'.get? a=some (methodObj (.ref f) (.ref y))
  exact k a _ (.inl rfl) e
 |ext φ=>obtain⟨p,⟨o,e⟩,st⟩:=x;exact⟨st _ _ p λo q=>k _ _ (.inl rfl) q,⟨o,k _ _ (.inl rfl) e⟩,st⟩
theorem HOk.lt(x:HOk P w H h)(e:H a=some o):a<h.objs.size:=(x a o e).lt
theorem HOk.fresh(x:HOk P w H h)(e:h.objs.size<=a):H a=none:=by
 cases q:H a with
 |none=>rfl
 |some u=>exact absurd (Ux (x.lt q) e) (Tl _)
theorem HOk.kept(x:HOk P w H h)(k:∀b u,h.get? b=some u->h'.get? b=some u):HOk P w H h':=λa o e =>
 (x a o e).stay (λb u _ q=>k b u q) (λ_ q=>q) λ_ _ q=>q
theorem HOk.laid(x:HOk P w H h)(k:∀b u,h.get? b=some u->h'.get? b=some u)(hp:h.objs.size<=a)(new:ObjOk P w (upd H a o) h' a o):HOk P w (upd H a o) h':=λb u e=>by
 have hn:=x.fresh hp
 by_cases hb:b=a
 ·subst hb;rw[QN]at e;cases e;exact new
 ·rw[QP hb]at e
  exact(x b u e).stay (λc v _ q=>k c v q) (λc q=>by rw[QP (Zg q hn)];exact q) λc xs q=>by rw[QP (Zg q hn)];exact q
end
def Rd(H:Hp)(a:Addr)(u:HO):Prop:=H a=some u\/∃o,H a=some (.frz o u)
theorem Rd.of{H:Hp}{a:Addr}{u:HO}(h:H a=some u):Rd H a u:=.inl h
theorem Rd.ok{P:Program}{w:World}{H:Hp}{h:Heap}{a:Addr}{u:HO}(r:Rd H a u)(x:HOk P w H h):ObjOk P w H h a u:=by
 rcases r with r|⟨o,r⟩
 ·exact x a u r
 ·obtain⟨_,q⟩:=x a _ r
  exact q
noncomputable def Mut:Option HO->Prop
 |some (.lst _)=>True
 |some (.dK _)=>True
 |some (.dT _)=>True
 |some (.set _ _)=>True
 |some (.ins _ _ _)=>True
 |some (.ext _)=>True
 |_=>False
section
variable{P:Program}{w:World}{H:Hp}{h h':Heap}{x e:Addr}{o':HO}
theorem HOk.write(ok:HOk P w H h)(mu:Mut (H x))(he:e=x\/H e=some (.own x))(k:∀b u,b≠e->h.get? b=some u->h'.get? b=some u)(heo:∃u,h'.get? e=some u)(new:ObjOk P w (upd H x o') h' x o'):HOk P w (upd H x o') h':=λb u q=>by
 have nown:∀c y,H c=some (.own y)->c≠x:=λc y r z=>by subst z;rw[r]at mu;exact mu
 have ntup:∀c xs,H c=some (.tup xs)->c≠x:=λc xs r z=>by subst z;rw[r]at mu;exact mu
 by_cases hb:b=x
 ·subst hb;rw[QN]at q;cases q;exact new
 ·rw[QP hb]at q
  by_cases hbe:b=e
  ·have q':H b=some (.own x):=by
    rcases he with z|z
    ·exact absurd (hbe.trans z) hb
    ·rw[hbe];exact z
   rw[q]at q';cases q'
   obtain⟨v,hv⟩:=heo
   exact⟨v,by rw[hbe];exact hv⟩
  ·refine(ok b u q).stay (λc v hc r=>k c v ?_ r) (λc r=>by rw[QP (nown c b r)];exact r) λc xs r=>by rw[QP (ntup c xs r)];exact r
   rcases hc with rfl|hc
   ·exact hbe
   ·rintro rfl
    rcases he with z|z
    ·exact nown c b hc z
    ·rw[hc]at z;cases z;exact hb rfl
end
structure Un(fs ex:List Addr)(H H':Hp)(h h':Heap):Prop where
 keep:∀b o,h.get? b=some o->H b=none->b∉fs->b∉ex->h'.get? b=some o
 slot:∀b o,h.get? b=some o->H b=none->b∈fs->b∉ex->∃sl,h'.get? b=some {o with slots:=sl}
 free:∀b o,h.get? b=some o->H b=none->b∉ex->H' b=none
 there:∀b o,h.get? b=some o->b∉ex->∃o',h'.get? b=some o'
 tups:∀b xs,H b=some (.tup xs)->H' b=some (.tup xs)
 frzs:∀b o u,H b=some (.frz o u)->H' b=some (.frz o u)
 tbls:∀b ps,H b=some (.tbl ps)->∃more,H' b=some (.tbl (ps++more))
section
variable{fs fs' ex ex':List Addr}{H H1 H2:Hp}{h h1 h2 h':Heap}{a x e:Addr}{o:HO}
theorem Un.any(u:Un fs ex H H1 h h1){b:Addr}{ob:Obj}(q:h.get? b=some ob)(n:H b=none)(hx:b∉ex):∃sl,h1.get? b=some {ob with slots:=sl}:=by
 by_cases hb:b∈fs
 ·exact u.slot b ob q n hb hx
 ·exact⟨ob.slots,u.keep b ob q n hb hx⟩
theorem Un.trans(a:Un fs ex H H1 h h1)(b:Un fs ex H1 H2 h1 h2):Un fs ex H H2 h h2 where
 keep:=λc ob q n hc hx=>b.keep c ob (a.keep c ob q n hc hx) (a.free c ob q n hx) hc hx
 slot:=λc ob q n hc hx=>by
  obtain⟨sl,e1⟩:=a.slot c ob q n hc hx
  obtain⟨sl',e2⟩:=b.slot c _ e1 (a.free c ob q n hx) hc hx
  exact⟨sl',e2⟩
 free:=λc ob q n hx=>by
  obtain⟨o',e1⟩:=a.there c ob q hx
  exact b.free c o' e1 (a.free c ob q n hx) hx
 there:=λc ob q hx=>by
  obtain⟨o',e1⟩:=a.there c ob q hx
  exact b.there c o' e1 hx
 tups:=λc xs q=>b.tups c xs (a.tups c xs q)
 frzs:=λc ob xs q=>b.frzs c ob xs (a.frzs c ob xs q)
 tbls:=λc ps q=>by
  obtain⟨m1,e1⟩:=a.tbls c ps q
  obtain⟨m2,e2⟩:=b.tbls c _ e1
  exact⟨m1++m2,by rw[e2,RB]⟩
theorem Un.kept(k:∀b u,h.get? b=some u->h'.get? b=some u):Un fs ex H H h h' :=
 ⟨λb ob q _ _ _=>k b ob q,λb ob q _ _ _=>⟨ob.slots,k b ob q⟩,λ_ _ _ n _=>n,λb ob q _=>⟨ob,k b ob q⟩,λ_ _ q=>q,λ_ _ _ q=>q,λ_ ps q=>⟨#[],by rw[q];simp⟩⟩
theorem Un.refl:Un fs ex H H h h:=Un.kept λ_ _ q=>q
theorem Un.laid(k:∀b u,h.get? b=some u->h'.get? b=some u)(hp:h.objs.size<=a)(hn:H a=none):Un fs ex H (upd H a o) h h' where
 keep:=λb u q _ _ _=>k b u q
 slot:=λb u q _ _ _=>⟨u.slots,k b u q⟩
 free:=λb u q n _=>by rw[QP (UI (Ux (Uk q) hp))];exact n
 there:=λb u q _=>⟨u,k b u q⟩
 tups:=λb xs q=>by rw[QP (Zg q hn)];exact q
 frzs:=λb u xs q=>by rw[QP (Zg q hn)];exact q
 tbls:=λb ps q=>⟨#[],by rw[QP (Zg q hn),q];simp⟩
theorem Un.write(mu:Mut (H x))(he:e=x\/H e=some (.own x))(k:∀b u,b≠e->h.get? b=some u->h'.get? b=some u)(heo:∃u,h'.get? e=some u):Un fs ex H (upd H x o) h h':=by
 have hx:∀b,H b=none->b≠x:=λb n z=>by subst z;rw[n]at mu;exact mu
 have hb:∀b,H b=none->b≠e:=λb n z=>by
  subst z
  rcases he with r|r
  ·exact hx b n r
  ·rw[n]at r;cases r
 have hm:∀b u,H b=some u->¬Mut (some u)->b≠x:=λb u q nm z=>by subst z;rw[q]at mu;exact nm mu
 refine⟨λb u q n _ _=>k b u (hb b n) q,λb u q n _ _=>⟨u.slots,k b u (hb b n) q⟩,λb u q n _=>by rw[QP (hx b n)];exact n,λb u q _=>?_,
  λb xs q=>by rw[QP (hm b _ q λz=>z)];exact q,λb u xs q=>by rw[QP (hm b _ q λz=>z)];exact q,λb ps q=>⟨#[],by rw[QP (hm b _ q λz=>z),q];simp⟩⟩
 by_cases hbe:b=e
 ·subst hbe;exact heo
 ·exact⟨u,k b u hbe q⟩
theorem Un.mono(u:Un fs ex H H1 h h1)(hs:∀b∈fs,b∈fs')(hx:∀b∈ex,b∈ex'):Un fs' ex' H H1 h h1 :=
 ⟨λb ob q n hb he=>u.keep b ob q n (λz=>hb (hs b z)) λz=>he (hx b z),λ_ _ q n _ he=>u.any q n λz=>he (hx _ z),λb ob q n he=>u.free b ob q n λz=>he (hx b z),λb ob q he=>u.there b ob q λz=>he (hx b z),u.tups,u.frzs,u.tbls⟩
end
noncomputable def trk(h:Heap)(H:Hp):List Addr:=(List.range h.objs.size).filter λa=>(H a).isSome
noncomputable def hidT(h:Heap)(H:Hp):Heap:=hideAll h (trk h H)
theorem Qhw(h:Heap)(H:Hp):(hidT h H).objs.size=h.objs.size:=hideAll_size _ _
theorem Qjk{h:Heap}{H:Hp}{b:Addr}{o:Obj}(e:h.get? b=some o)(n:H b=none):(hidT h H).get? b=some o :=
 hideAll_get _ e λhm=>by
  have q:(H b).isSome=true:=(List.mem_filter.mp hm).2
  rw[n]at q;simp at q
theorem QkQ{h:Heap}{H:Hp}{b:Addr}{o:Obj}(e:(hidT h H).get? b=some o):h.get? b=some o/\H b=none:=by
 have e':h.get? b=some o:=of_hideAll (trk h H) e
 refine⟨e',?_⟩
 cases q:H b with
 |none=>rfl
 |some x =>
  have hm:b∈trk h H:=List.mem_filter.mpr ⟨RG.mpr (Uk e'),by simp[q]⟩
  have z:(hidT h H).get? b=none:=hideAll_none (trk h H) hm
  rw[z]at e;cases e
noncomputable def QkR(g h:Heap)(L:Addr):List (Addr×Obj):=(List.range h.objs.size).filterMap λa=>if a=L\/(g.get? a).isSome=true then none else (h.get? a).map λo=>(a,o)
noncomputable def rest(g h:Heap)(L d:Addr):List (Addr×Obj):=(QkR g h L).filter λp=>decide (p.1≠d)
end
section
structure Mod(K:Frag)(mg:Str->Option Value)(base:Heap):Prop where
 kin:K.In base
 glob:base.Ns mainGlobals mg
 blt:∃mb,base.Ns builtinsNs mb/\∀x:Str,x ≠ "__name__" -> mb x=bootBuiltins x
 nolimit:base.NoLimit
/-- the context: a def's body (or a comprehension's block) running. base: fixed through the whole law;s₀,H₀: the entry;outer: the frames whose slots others may change (a def's callers);stack: all frames that run;
   ex: iterators that were made ahead of the entry and are walked here (a comprehension's);fn: the names whose cells were made at the entry (a def: all;a comprehension's block: its own);calm: not within an except suite;pn: pins that every state bears;xe: what is wanted of an exception that leaves the code -/
structure Cx where
 prog:Program
 w:World
 K:Frag
 mg:Str->Option Value
 base:Heap
 A:Around
 N:List Str
 s₀:Shared
 H₀:Hp
 env:Env
 outer:List Env
 stack:List Env
 ex:List Addr
 fn:Str->Bool
 calm:Bool
 pn:List (Addr×Obj)
 xe:Value->Shared->Prop
noncomputable def frs(l:List Env):List Addr:=l.filterMap (·.frame)
noncomputable abbrev Cx.fs(X:Cx):List Addr:=frs X.outer
def Vis(sc:Scope)(x:Str):Prop:=sc.names.lookup x=some .local\/sc.names.lookup x=some .cell\/sc.names.lookup x=some .free
def Loc(sc:Scope)(x:Str):Prop:=sc.names.lookup x=some .local\/sc.names.lookup x=some .cell
noncomputable def Look(env:Env)(h:Heap)(m:Str->Option Value)(x:Str)(u:Value):Prop :=
 (env.kindOf x=some .local/\m x=some u)\/((env.kindOf x=some .cell\/env.kindOf x=some .free)/\∃c,env.cells.lookup x=some c/\h.IsCell c (some u))
structure Cx.Ok(X:Cx):Prop where
 mod:Mod X.K X.mg X.base
 kind:X.env.scope.kind=.function
 glob:X.env.globals=mainGlobals
 blt:X.env.builtins=builtinsNs
 above:X.s₀.heap.objs.size<=X.env.locals
 inj:∀x y c,X.env.cells.lookup x=some c->X.env.cells.lookup y=some c->x=y
 has:∀x,(X.env.kindOf x=some .cell\/X.env.kindOf x=some .free)->∃c,X.env.cells.lookup x=some c
 cab:∀x c,X.fn x=true->X.env.cells.lookup x=some c->X.s₀.heap.objs.size<=c
 hd:X.calm=true->X.A.handled=none
 frames:X.A.frames=some X.stack
 stk:X.stack=X.outer\/(X.stack=X.env::X.outer/\X.env.frame=some X.env.locals)
 exf:∀b∈X.ex,b≠X.env.locals/\∀x c,X.env.cells.lookup x=some c->c≠b
 bs:∀b o,X.base.get? b=some o->X.s₀.heap.get? b=some o/\X.H₀ b=none
 bsz:X.base.objs.size<=X.s₀.heap.objs.size
 noex:∀b o,X.base.get? b=some o->b∉X.ex
 exfs:∀b∈X.ex,b∉X.fs
 funs:X.s₀.heap.FunFrames X.base X.outer
 frf:∀b∈X.fs,X.H₀ b=none
structure Inv(X:Cx)(pins:List (Addr×Obj))(σ:List (Option V))(H:Hp)(s:Shared):Prop where
 ok:X.Ok
 os:s.os=X.s₀.os
 bare:AllBare s.gens
 base:Un X.fs X.ex X.H₀ H X.s₀.heap s.heap
 loc:∃m,s.heap.Ns X.env.locals m/\∀(i:Nat)(x:Str)(v:V),X.N[i]?=some x->σ[i]?=some (some v)->Vis X.env.scope x->∃u,RelV v u/\Look X.env s.heap m x u
 cell:∀x c,X.env.cells.lookup x=some c->∃v,s.heap.IsCell c v
 free:H X.env.locals=none
 freeC:∀x c,X.env.cells.lookup x=some c->H c=none
 pin:∀p∈X.pn++pins,s.heap.get? p.1=some p.2/\H p.1=none/\p.1≠X.env.locals/\p.1∉X.fs/\∀v,p.2.data≠.cell v
 hok:HOk X.prog X.w H s.heap
 len:σ.length=X.N.length
section
variable{X:Cx}{pins:List (Addr×Obj)}{σ:List (Option V)}{H H':Hp}{s:Shared}{h':Heap}
theorem Cx.Ok.nofr(ok:X.Ok){b:Addr}{o:Obj}(e:X.base.get? b=some o):b∉X.fs:=λhb=>by
 have:=(ok.funs.mem hb).1
 rw[e]at this;cases this
theorem Inv.bs(I:Inv X pins σ H s):∀b o,X.base.get? b=some o->s.heap.get? b=some o/\H b=none:=λb o e =>
 ⟨I.base.keep b o (I.ok.bs b o e).1 (I.ok.bs b o e).2 (I.ok.nofr e) (I.ok.noex b o e),I.base.free b o (I.ok.bs b o e).1 (I.ok.bs b o e).2 (I.ok.noex b o e)⟩
theorem Inv.bk(I:Inv X pins σ H s):∀b o,X.base.get? b=some o->s.heap.get? b=some o:=λb o e=>(I.bs b o e).1
theorem Inv.mod(I:Inv X pins σ H s):Mod X.K X.mg X.base:=I.ok.mod
theorem Inv.kIn(I:Inv X pins σ H s):X.K.In s.heap:=I.ok.mod.kin.keeps I.bk
theorem Inv.nolimit(I:Inv X pins σ H s):s.heap.NoLimit:=I.ok.mod.nolimit.keeps I.bk
theorem Inv.fr(I:Inv X pins σ H s):∃m,Fr X.base X.env.locals s.heap m :=
 let ⟨m,hn,_⟩:=I.loc
 ⟨m,hn,I.bk,Uw I.ok.bsz I.ok.above⟩
theorem Inv.lt(I:Inv X pins σ H s):X.env.locals<s.heap.objs.size:=let ⟨_,hn,_⟩:=I.loc;hn.lt
theorem Inv.sz(I:Inv X pins σ H s):X.s₀.heap.objs.size<=s.heap.objs.size:=Uw I.ok.above (UU I.lt)
theorem Inv.nofs(I:Inv X pins σ H s){a:Addr}(h:s.heap.objs.size<=a):a∉X.fs:=λhb=>by
 obtain⟨_,o,ho,_⟩:=I.ok.funs.mem hb
 exact absurd (Ux (Uk ho) (Uw I.sz h)) (Tl _)
theorem Inv.cne(I:Inv X pins σ H s):∀x c,X.env.cells.lookup x=some c->c≠X.env.locals:=λx c e z=>by
 obtain⟨v,o,ho,hd⟩:=I.cell x c e
 obtain⟨m,⟨o',es,ep,ho',hd',_⟩,_⟩:=I.loc
 rw[z,ho']at ho;cases ho;rw[hd']at hd;cases hd
theorem Inv.funs(I:Inv X pins σ H s):s.heap.FunFrames X.base X.outer:=by
 have all:∀(l:List Env),(∀b∈frs l,b∈X.fs)->X.s₀.heap.FunFrames X.base l->s.heap.FunFrames X.base l:=by
  intro l
  induction l with
  |nil=>intro _ _;trivial
  |cons env r ih =>
   intro hs hl
   obtain⟨hk,⟨L,o,hf,hn,ho,hd⟩,hr⟩:=hl
   have hL:L∈X.fs:=hs L (by unfold frs;rw[Th,hf];exact UH)
   obtain⟨sl,e⟩:=I.base.slot L o ho (I.ok.frf L hL) hL λz=>I.ok.exfs L z hL
   exact⟨hk,⟨L,_,hf,hn,e,hd⟩,ih (λb hb=>hs b (by unfold frs;rw[Th,hf];exact Uz _ hb)) hr⟩
 exact all X.outer (λ_ hb=>hb) I.ok.funs
theorem Inv.stack(I:Inv X pins σ H s):s.heap.FunFrames X.base X.stack:=by
 rcases I.ok.stk with e|⟨e,hf⟩
 ·rw[e];exact I.funs
 ·rw[e]
  obtain⟨m,hn,_⟩:=I.loc
  refine .cons (by rw[I.ok.kind];decide) hf hn ?_ I.funs
  exact Heap.get?_none_of_le (Uw I.ok.bsz I.ok.above)
theorem Inv.stkSub(I:Inv X pins σ H s):∀b∈frs X.stack,b∈X.env.locals::X.fs:=λb hb=>by
 rcases I.ok.stk with e|⟨e,hf⟩
 ·rw[e]at hb;exact Uz _ hb
 ·rw[e]at hb
  unfold frs at hb
  rw[Th,hf]at hb
  exact hb
theorem Inv.stkFree(I:Inv X pins σ H s):∀b∈frs X.stack,H b=none:=λb hb=>by
 rcases Ui.mp (I.stkSub b hb) with e|hb
 ·rw[e];exact I.free
 ·obtain⟨_,o,ho,_⟩:=I.ok.funs.mem hb
  exact I.base.free b o ho (I.ok.frf b hb) λz=>I.ok.exfs b z hb
theorem Inv.step{g':Array GenState}{t':Nat}{d':Drawn}{ch:List Addr}(I:Inv X pins σ H s)(hch:∀b∈ch,(b∈X.ex\/X.s₀.heap.objs.size<=b)/\b≠X.env.locals/\(∀x c,X.env.cells.lookup x=some c->c≠b)/\∀p∈X.pn++pins,p.1≠b)(keep:∀b o,b≠X.env.locals->b∉X.fs->b∉ch->s.heap.get? b=some o->H b=none->h'.get? b=some o)(slot:∀b o,b≠X.env.locals->b∈X.fs->b∉ch->s.heap.get? b=some o->H b=none->∃sl,h'.get? b=some {o with slots:=sl})(free:∀b o,b∉ch->s.heap.get? b=some o->H b=none->H' b=none)(there:∀b o,b∉ch->s.heap.get? b=some o->∃o',h'.get? b=some o')(tups:∀b xs,H b=some (.tup xs)->H' b=some (.tup xs))(frzs:∀b o u,H b=some (.frz o u)->H' b=some (.frz o u))(tbls:∀b ps,H b=some (.tbl ps)->∃more,H' b=some (.tbl (ps++more)))(ns:∀m,s.heap.Ns X.env.locals m->h'.Ns X.env.locals m)(hok:HOk X.prog X.w H' h')(hg:AllBare g'):
  Inv X pins σ H' {s with heap:=h',gens:=g',drawn:=d',toks:=t'}:=by
 have neL:∀b o,X.s₀.heap.get? b=some o->b≠X.env.locals:=λb o e=>UI (Ux (Uk e) I.ok.above)
 have neC:∀b o,X.s₀.heap.get? b=some o->b∉X.ex->b∉ch:=λb o e hx hb=>by
  rcases(hch b hb).1 with z|z
  ·exact hx z
  ·exact absurd (Ux (Uk e) z) (Tl _)
 have cellK:∀x c,X.env.cells.lookup x=some c->∀v,s.heap.IsCell c v->h'.IsCell c v:=λx c e v ⟨o,ho,hd⟩=>by
  have nch:c∉ch:=λz=>(hch c z).2.2.1 x c e rfl
  by_cases hc:c∈X.fs
  ·obtain⟨sl,q⟩:=slot c o (I.cne x c e) hc nch ho (I.freeC x c e)
   exact⟨_,q,hd⟩
  ·exact⟨o,keep c o (I.cne x c e) hc nch ho (I.freeC x c e),hd⟩
 refine⟨I.ok,I.os,hg,⟨λb o e n hb hx=>?_,λb o e n hb hx=>?_,λb o e n hx=>?_,λb o e hx=>?_,λb xs e=>tups b xs (I.base.tups b xs e),λb o xs e=>frzs b o xs (I.base.frzs b o xs e),λb ps e=>?_⟩,?_,λx c e=>?_,?_,λx c e=>?_,λp hp=>?_,hok,I.len⟩
 ·exact keep b o (neL b o e) hb (neC b o e hx) (I.base.keep b o e n hb hx) (I.base.free b o e n hx)
 ·obtain⟨sl,e1⟩:=I.base.slot b o e n hb hx
  obtain⟨sl',e2⟩:=slot b _ (neL b o e) hb (neC b o e hx) e1 (I.base.free b o e n hx)
  exact⟨sl',e2⟩
 ·obtain⟨o',e1⟩:=I.base.there b o e hx
  exact free b o' (neC b o e hx) e1 (I.base.free b o e n hx)
 ·obtain⟨o',e1⟩:=I.base.there b o e hx
  exact there b o' (neC b o e hx) e1
 ·obtain⟨m1,e1⟩:=I.base.tbls b ps e
  obtain⟨m2,e2⟩:=tbls b _ e1
  exact⟨m1++m2,by rw[e2,RB]⟩
 ·obtain⟨m,hn,hl⟩:=I.loc
  refine⟨m,ns m hn,λi x v e1 e2 e3=>?_⟩
  obtain⟨u,r,l⟩:=hl i x v e1 e2 e3
  refine⟨u,r,?_⟩
  rcases l with l|⟨k,c,e,z⟩
  ·exact .inl l
  ·exact .inr ⟨k,c,e,cellK x c e _ z⟩
 ·obtain⟨v,z⟩:=I.cell x c e
  exact⟨v,cellK x c e v z⟩
 ·obtain⟨m,⟨o,_,_,ho,_⟩,_⟩:=I.loc
  exact free _ o (λz=>(hch _ z).2.1 rfl) ho I.free
 ·obtain⟨v,o,ho,hd⟩:=I.cell x c e
  exact free c o (λz=>(hch c z).2.2.1 x c e rfl) ho (I.freeC x c e)
 ·obtain⟨e,n,ne,nf,d⟩:=I.pin p hp
  have nch:p.1∉ch:=λz=>(hch p.1 z).2.2.2 p hp rfl
  exact⟨keep p.1 p.2 ne nf nch e n,free p.1 p.2 nch e n,ne,nf,d⟩
theorem Inv.un{t':Nat}(I:Inv X pins σ H s)(u:Un X.fs [] H H' s.heap h')(hok:HOk X.prog X.w H' h'):Inv X pins σ H' {s with heap:=h',toks:=t'}:=by
 obtain⟨m,⟨o,es,ep,ho,r⟩,_⟩:=id I.loc
 obtain⟨sl,hL⟩:=u.any ho I.free (by simp)
 exact I.step (g':=s.gens) (d':=s.drawn) (ch:=[]) (λ_ z=>nomatch z) (λb o _ hb _ e n=>u.keep b o e n hb (by simp)) (λb o _ hb _ e n=>u.slot b o e n hb (by simp)) (λb o _ e n=>u.free b o e n (by simp)) (λb o _ e=>u.there b o e (by simp)) u.tups u.frzs u.tbls (λm' hm=>by
  obtain⟨o',es',ep',ho',r'⟩:=hm
  rw[ho]at ho';cases ho'
  exact⟨_,es',ep',hL,r'⟩) hok I.bare
theorem Inv.call{g':Array GenState}{t':Nat}{d':Drawn}{ch:List Addr}(I:Inv X pins σ H s)(u:Un (frs X.stack) ch H H' s.heap h')(hok:HOk X.prog X.w H' h')(hg:AllBare g')(hch:∀b∈ch,(b∈X.ex\/X.s₀.heap.objs.size<=b)/\b≠X.env.locals/\(∀x c,X.env.cells.lookup x=some c->c≠b)/\∀p∈X.pn++pins,p.1≠b):
  Inv X pins σ H' {s with heap:=h',gens:=g',drawn:=d',toks:=t'}:=by
 obtain⟨m,⟨o,es,ep,ho,r⟩,_⟩:=id I.loc
 obtain⟨sl,hL⟩:=u.any ho I.free λz=>(hch _ z).2.1 rfl
 exact I.step (ch:=ch) hch (λb o hL hb hc e n=>u.keep b o e n (λz=>(Ui.mp (I.stkSub b z)).elim hL hb) hc) (λb o _ _ hc e n=>u.any e n hc) (λb o hc e n=>u.free b o e n hc) (λb o hc e=>u.there b o e hc) u.tups u.frzs u.tbls (λm' hm=>by
  obtain⟨o',es',ep',ho',r'⟩:=hm
  rw[ho]at ho';cases ho'
  exact⟨_,es',ep',hL,r'⟩) hok hg
theorem Inv.turned{t':Nat}{it:Addr}(I:Inv X pins σ H s)(k:∀b o,b≠it->s.heap.get? b=some o->h'.get? b=some o)(hn:H it=none)(hL:it≠X.env.locals)(h1:it∈X.ex\/X.s₀.heap.objs.size<=it)(h2:∀x c,X.env.cells.lookup x=some c->c≠it)(h3:∀p∈X.pn++pins,p.1≠it):Inv X pins σ H {s with heap:=h',toks:=t'}:=by
 have nit:∀b u,H b=some u->b≠it:=λb u e z=>by rw[z,hn]at e;cases e
 refine I.step (g':=s.gens) (d':=s.drawn) (ch:=[it]) (λb hb=>?_) (λb o _ _ hc e _=>k b o (λz=>hc (by simp[z])) e) (λb o _ _ hc e _=>⟨o.slots,k b o (λz=>hc (by simp[z])) e⟩) (λ_ _ _ _ n=>n)
  (λb o hc e=>⟨o,k b o (λz=>hc (by simp[z])) e⟩) (λ_ _ e=>e) (λ_ _ _ e=>e) (λb ps e=>⟨#[],by rw[e];simp⟩) (λm hm=>?_) (λb u e=>?_) I.bare
 ·have e:b=it:=by simpa using hb
  subst e
  exact⟨h1,hL,h2,h3⟩
 ·obtain⟨o,es,ep,ho,r⟩:=hm
  exact⟨o,es,ep,k _ o (Ne.symm hL) ho,r⟩
 ·refine(I.hok b u e).stay (λc v hc q=>k c v ?_ q) (λ_ q=>q) λ_ _ q=>q
  rcases hc with z|z
  ·rw[z];exact nit b u e
  ·exact nit c _ z
theorem Inv.tok(I:Inv X pins σ H s)(t:Nat):Inv X pins σ H {s with toks:=t}:=I.un (h':=s.heap) (t':=t) Un.refl I.hok
theorem Inv.kept{t':Nat}(I:Inv X pins σ H s)(k:∀b u,s.heap.get? b=some u->h'.get? b=some u):Inv X pins σ H {s with heap:=h',toks:=t'}:=I.un (Un.kept k) (I.hok.kept k)
theorem Inv.laid{a:Addr}{o:HO}{t':Nat}(I:Inv X pins σ H s)(k:∀b u,s.heap.get? b=some u->h'.get? b=some u)(hp:s.heap.objs.size<=a)(new:ObjOk X.prog X.w (upd H a o) h' a o):
  Inv X pins σ (upd H a o) {s with heap:=h',toks:=t'}:=I.un (Un.laid k hp (I.hok.fresh hp)) (I.hok.laid k hp new)
theorem Inv.write{x e:Addr}{o:HO}{t':Nat}(I:Inv X pins σ H s)(mu:Mut (H x))(he:e=x\/H e=some (.own x))(k:∀b u,b≠e->s.heap.get? b=some u->h'.get? b=some u)(heo:∃u,h'.get? e=some u)(new:ObjOk X.prog X.w (upd H x o) h' x o):Inv X pins σ (upd H x o) {s with heap:=h',toks:=t'}:=I.un (Un.write mu he k heo) (I.hok.write mu he k heo new)
theorem Inv.pins_of{pins':List (Addr×Obj)}(I:Inv X pins σ H s)(h:∀p∈pins',s.heap.get? p.1=some p.2/\H p.1=none/\p.1≠X.env.locals/\p.1∉X.fs/\∀v,p.2.data≠.cell v):Inv X pins' σ H s :=
 ⟨I.ok,I.os,I.bare,I.base,I.loc,I.cell,I.free,I.freeC,λp hp=>(Up.mp hp).elim (λz=>I.pin p (Te _ z)) (h p),I.hok,I.len⟩
theorem QdO{N:List Str}(hN:N.Nodup){i j:Nat}{x:Str}(a:N[i]?=some x)(b:N[j]?=some x):i=j:=by
 obtain⟨h1,e1⟩:=Uf.mp a
 obtain⟨h2,e2⟩:=Uf.mp b
 exact(RT hN).mp (e1.trans e2.symm)
theorem Qhx{M:Model}{A:Around}{E:Value->Shared->Prop}{i:Nat}{x:Str}{v:V}{u:Value}{Q:Unit->Shared->Prop}(I:Inv X pins σ H s)(hN:X.N.Nodup)(hi:X.N[i]?=some x)(hx:Loc X.env.scope x)(r:RelV v u)(h:∀s',Inv X pins (σ.set i (some v)) H s'->(∃a,Heap.SameBut a s.heap s'.heap/\(a=X.env.locals\/X.env.cells.lookup x=some a))->Q () s')(hf:X.fn x=true\/X.env.scope.names.lookup x=some .local:=by first|exact .inl rfl|exact .inr rfl|assumption):wpAny M A (storeName X.env x u) Q E s:=by
 obtain⟨m,hn,hl⟩:=id I.loc
 have hcls:(X.env.scope.kind == .class || (X.env.scope.kind == .module && X.env.locals != X.env.globals))=false:=by rw[I.ok.kind];rfl
 have hiσ:i<σ.length:=by rw[I.len];exact(Uf.mp hi).1
 have cne:=I.cne
 have tracked:∀{a:Addr}{h':Heap},(∃o,s.heap.get? a=some o/\H a=none)->Heap.SameBut a s.heap h'->HOk X.prog X.w H h':=λ{a h'} ha hs b ob e=>by
  obtain⟨_,_,hfree⟩:=ha
  refine(I.hok b ob e).stay (λc w' hc q=>(hs.2 c ?_).trans q) (λ_ q=>q) λ_ _ q=>q
  rintro rfl
  rcases hc with rfl|hc
  ·rw[hfree]at e;cases e
  ·rw[hfree]at hc;cases hc
 rcases hx with hk|hk
 ·refine wpAny_storeName_local hk hn (λh' hn' hs=>?_) hcls
  obtain⟨oL,_,_,hoL,_⟩:=id hn
  refine h _ ⟨I.ok,I.os,I.bare,⟨λb o e n hb hx=>?_,λb o e n hb hx=>?_,I.base.free,λb o e hx=>?_,I.base.tups,I.base.frzs,I.base.tbls⟩,⟨_,hn',λj y v' e1 e2 e3=>?_⟩,λy c e=>?_,I.free,I.freeC,λp hp=>?_,tracked ⟨oL,hoL,I.free⟩ hs,by simpa using I.len⟩ ⟨_,hs,.inl rfl⟩
  ·exact(hs.2 b (UI (Ux (Uk e) I.ok.above))).trans (I.base.keep b o e n hb hx)
  ·obtain⟨sl,e1⟩:=I.base.slot b o e n hb hx
   exact⟨sl,(hs.2 b (UI (Ux (Uk e) I.ok.above))).trans e1⟩
  ·obtain⟨o',e1⟩:=I.base.there b o e hx
   exact⟨o',(hs.2 b (UI (Ux (Uk e) I.ok.above))).trans e1⟩
  ·by_cases hj:j=i
   ·subst hj
    rw[hi]at e1;cases e1
    rw[UX hiσ]at e2
    cases e2
    exact⟨u,r,.inl ⟨hk,by simp⟩⟩
   ·rw[Uq (Ne.symm hj)]at e2
    obtain⟨u',r',q⟩:=hl j y v' e1 e2 e3
    refine⟨u',r',?_⟩
    rcases q with⟨k,e⟩|⟨k,c,e,z⟩
    ·refine .inl ⟨k,?_⟩
     have:y≠x:=λe=>hj (QdO hN e1 (e ▸ hi))
     simp[this,e]
    ·exact .inr ⟨k,c,e,z.sameBut hs (cne y c e)⟩
  ·obtain⟨w',z⟩:=I.cell y c e
   exact⟨w',z.sameBut hs (cne y c e)⟩
  ·obtain⟨e,n,ne,nf,d⟩:=I.pin p hp
   exact⟨(hs.2 p.1 ne).trans e,n,ne,nf,d⟩
 ·have hfn:X.fn x=true:=by
   rcases hf with z|z
   ·exact z
   ·rw[z]at hk;cases hk
  obtain⟨c,hc⟩:=I.ok.has x (.inl hk)
  obtain⟨w',z⟩:=I.cell x c hc
  refine wpAny_storeName_cell I.ok.kind hk hc z (λh' hc' hs=>?_)
  obtain⟨oc,hoc,hocd⟩:=id z
  refine h {s with heap:=h'} ⟨I.ok,I.os,I.bare,⟨λb o e n hb hx=>?_,λb o e n hb hx=>?_,I.base.free,λb o e hx=>?_,I.base.tups,I.base.frzs,I.base.tbls⟩,⟨m,hn.sameBut hs (Ne.symm (cne x c hc)),λj y v' e1 e2 e3=>?_⟩,λy c' e=>?_,I.free,I.freeC,λp hp=>?_,tracked ⟨oc,hoc,I.freeC x c hc⟩ hs,by simpa using I.len⟩ ⟨c,hs,.inr hc⟩
  ·exact(hs.2 b (UI (Ux (Uk e) (I.ok.cab x c hfn hc)))).trans (I.base.keep b o e n hb hx)
  ·obtain⟨sl,e1⟩:=I.base.slot b o e n hb hx
   exact⟨sl,(hs.2 b (UI (Ux (Uk e) (I.ok.cab x c hfn hc)))).trans e1⟩
  ·obtain⟨o',e1⟩:=I.base.there b o e hx
   exact⟨o',(hs.2 b (UI (Ux (Uk e) (I.ok.cab x c hfn hc)))).trans e1⟩
  ·by_cases hj:j=i
   ·subst hj
    rw[hi]at e1;cases e1
    rw[UX hiσ]at e2
    cases e2
    exact⟨u,r,.inr ⟨.inl hk,c,hc,hc'⟩⟩
   ·rw[Uq (Ne.symm hj)]at e2
    obtain⟨u',r',q⟩:=hl j y v' e1 e2 e3
    refine⟨u',r',?_⟩
    rcases q with q|⟨k,c',e,z'⟩
    ·exact .inl q
    ·refine .inr ⟨k,c',e,z'.sameBut hs ?_⟩
     rintro rfl
     exact hj (QdO hN e1 (I.ok.inj _ _ _ e hc ▸ hi))
  ·by_cases hcc:c'=c
   ·subst hcc;exact⟨_,hc'⟩
   ·obtain⟨w2,z2⟩:=I.cell y c' e
    exact⟨w2,z2.sameBut hs hcc⟩
  ·obtain⟨e,n,ne,nf,d⟩:=I.pin p hp
   refine⟨(hs.2 p.1 ?_).trans e,n,ne,nf,d⟩
   intro q
   rw[q,hoc]at e
   have q':oc=p.2:=Option.some.inj e
   exact d w' (by rw[<-q'];exact hocd)
theorem Qch{M:Model}{A:Around}{E:Value->Shared->Prop}{i:Nat}{x:Str}{v:V}{u:Value}{Q:Unit->Shared->Prop}(I:Inv X pins σ H s)(hN:X.N.Nodup)(hi:X.N[i]?=some x)(hx:Loc X.env.scope x)(r:RelV v u)(h:∀s',Inv X pins (σ.set i (some v)) H s'->Q () s')(hf:X.fn x=true\/X.env.scope.names.lookup x=some .local:=by first|exact .inl rfl|exact .inr rfl|assumption):wpAny M A (storeName X.env x u) Q E s :=
 Qhx I hN hi hx r (λs' I' _=>h s' I') hf
theorem Inv.call'{s':Shared}{ch:List Addr}(I:Inv X pins σ H s)(ho:s'.os=s.os)(u:Un (frs X.stack) ch H H' s.heap s'.heap)(hok:HOk X.prog X.w H' s'.heap)(hg:AllBare s'.gens)(hch:∀b∈ch,(b∈X.ex\/X.s₀.heap.objs.size<=b)/\b≠X.env.locals/\(∀x c,X.env.cells.lookup x=some c->c≠b)/\∀p∈X.pn++pins,p.1≠b):Inv X pins σ H' s':=by
 obtain⟨h',g',d',t',o'⟩:=s'
 have e:o'=s.os:=ho
 subst e
 exact I.call (g':=g') (t':=t') (d':=d') u hok hg hch
end
noncomputable abbrev XK:=Value->Option Addr->Hp->Prop
noncomputable abbrev St:=List (Option V)
noncomputable abbrev VK:=V->Hp->Prop
noncomputable abbrev TE:=St->Hp->VK->Prop
noncomputable abbrev TT:=St->Hp->(Bool->Hp->Prop)->Prop
noncomputable abbrev TA:=St->Hp->(List V->Hp->Prop)->Prop
structure Ends where
 nx:St->Hp->Prop
 rt:VK
 bk:St->Hp->Prop:=λ_ _=>False
 ct:St->Hp->Prop:=λ_ _=>False
noncomputable abbrev TS:=Ends->St->Hp->Prop
def EP(X:Cx)(pins:List (Addr×Obj))(σ:St)(Q:VK)(u:Value)(s':Shared):Prop:=∃v H',Inv X pins σ H' s'/\RelV v u/\Q v H'
def TP(X:Cx)(pins:List (Addr×Obj))(σ:St)(Q:Bool->Hp->Prop)(b:Bool)(s':Shared):Prop:=∃H',Inv X pins σ H' s'/\Q b H'
def AP(X:Cx)(pins:List (Addr×Obj))(σ:St)(Q:List V->Hp->Prop)(us:List Value)(s':Shared):Prop:=∃vs H',Inv X pins σ H' s'/\Vals vs us/\Q vs H'
noncomputable def SP(X:Cx)(pins:List (Addr×Obj))(D:Ends)(f:Flow)(s':Shared):Prop :=
 match f with
 |.next=>∃σ' H',Inv X pins σ' H' s'/\D.nx σ' H'
 |.brk=>∃σ' H',Inv X pins σ' H' s'/\D.bk σ' H'
 |.cont=>∃σ' H',Inv X pins σ' H' s'/\D.ct σ' H'
 |.ret u=>∃v σ' H',Inv X pins σ' H' s'/\RelV v u/\D.rt v H'
noncomputable def PE(X:Cx)(e:Expr)(t:TE):Prop :=
 ∀(pins:List (Addr×Obj))(s:Shared)(σ:St)(H:Hp)(Q:VK),Inv X pins σ H s->t σ H Q->wpAny (model X.prog X.w) X.A (eval e X.env) (EP X pins σ Q) X.xe s
noncomputable def PT(X:Cx)(e:Expr)(t:TT):Prop :=
 ∀(pins:List (Addr×Obj))(s:Shared)(σ:St)(H:Hp)(Q:Bool->Hp->Prop),Inv X pins σ H s->t σ H Q->wpAny (model X.prog X.w) X.A (isTrue e X.env (eval e X.env)) (TP X pins σ Q) X.xe s
noncomputable def PW(X:Cx)(e:Expr)(t:TT):Prop :=
 ∀(whole:Sem Value)(pins:List (Addr×Obj))(s:Shared)(σ:St)(H:Hp)(Q:Bool->Hp->Prop),Inv X pins σ H s->t σ H Q->wpAny (model X.prog X.w) X.A (isTrue e X.env whole) (TP X pins σ Q) X.xe s
theorem PW.pt{X:Cx}{e:Expr}{t:TT}(h:PW X e t):PT X e t:=h _
noncomputable def PA(X:Cx)(es:List Expr)(t:TA):Prop :=
 ∀(pos:Pos)(pins:List (Addr×Obj))(s:Shared)(σ:St)(H:Hp)(Q:List V->Hp->Prop),Inv X pins σ H s->t σ H Q->wpAny (model X.prog X.w) X.A (spliced (backTo pos (starEach es X.env))) (AP X pins σ Q) X.xe s
noncomputable def PS(X:Cx)(st:Stmt)(t:TS):Prop :=
 ∀(pins:List (Addr×Obj))(s:Shared)(σ:St)(H:Hp)(D:Ends),Inv X pins σ H s->t D σ H->wpAny (model X.prog X.w) X.A (exec st X.env) (SP X pins D) X.xe s
noncomputable def PSs(X:Cx)(st:List Stmt)(t:TS):Prop :=
 ∀(pins:List (Addr×Obj))(s:Shared)(σ:St)(H:Hp)(D:Ends),Inv X pins σ H s->t D σ H->wpAny (model X.prog X.w) X.A (execs st X.env) (SP X pins D) X.xe s
theorem thn{α:Type}{t:Sem α}{Q Q':α->Shared->Prop}{M:Model}{A:Around}{E:Value->Shared->Prop}{s:Shared}(h:wpAny M A t Q E s)(hQ:∀a s,Q a s->Q' a s):wpAny M A t Q' E s:=UV h hQ λ_ _ x=>x
end
section
section
variable{X:Cx}
noncomputable def tVar(i:Nat):TE:=λσ H Q=>∃v,σ[i]?=some (some v)/\Q v H
noncomputable def tC(v:V):TE:=λ_ H Q=>Q v H
theorem Ql9{i:Nat}{x:Str}{pos:Pos}(hN:X.N[i]?=some x)(hv:Vis X.env.scope x)(hd:(x == ("__debug__" : Str))=false:=by decide)(hcd:(x == ("__classdict__" : Str))=false:=by decide):PE X (.Name x pos) (tVar i):=by
 intro pins s σ H Q I h
 obtain⟨v,e,h⟩:=h
 obtain⟨m,hn,hl⟩:=I.loc
 obtain⟨u,r,l⟩:=hl i x v hN e hv
 have fin:EP X pins σ Q u s:=⟨v,H,I,r,h⟩
 rcases l with⟨hk,hm⟩|⟨hk,c,hc,hcell⟩
 ·exact wpAny_Name (wpAny_loadName_local I.ok.kind hk hn hm fin) hd
 ·rcases hk with hk|hk
  ·exact wpAny_Name (wpAny_loadName_cell I.ok.kind hk hc hcell fin) hd
  ·exact wpAny_Name (wpAny_loadName_free I.ok.kind hk hc hcell fin hcd) hd
theorem Qma{i j pos}:PE X (.Constant (.int i) j pos) (tC (.int i)):=λ_ _ _ H _ I h=>wpAny_Constant_int ⟨.int i,H,I.tok _,⟨_,rfl⟩,h⟩
theorem QnG{b j pos}:PE X (.Constant (.bool b) j pos) (tC (.bl b)):=λ_ _ _ H _ I h=>Constant_bool ⟨.bl b,H,I,rfl,h⟩
theorem Qmb{j pos}:PE X (.Constant .none j pos) (tC .non):=λ_ _ _ H _ I h=>Constant_none ⟨.non,H,I,rfl,h⟩
theorem Qmc{x j pos}:PE X (.Constant (.str x) j pos) (tC (.str x)):=λ_ _ _ H _ I h=>Calls.Constant_str ⟨.str x,H,I.tok _,⟨_,rfl⟩,h⟩
def Gl(X:Cx)(x:Str):Prop:=X.env.kindOf x=some .globalImplicit
theorem Qcv{E:Value->Shared->Prop}{pins:List (Addr×Obj)}{s:Shared}{σ:St}{H:Hp}{x:Str}{u:Value}{pos:Pos}{Q:Value->Shared->Prop}(I:Inv X pins σ H s)(hg:Gl X x)(hm:X.mg x=some u)(h:Q u s)(hd:(x == ("__debug__" : Str))=false:=by decide):wpAny (model X.prog X.w) X.A (eval (.Name x pos) X.env) Q E s :=
 Rx I.ok.kind hg (Calls.loadGlobal_global (by rw[I.ok.glob];exact I.mod.glob.keeps I.bk) hm h) hd
theorem QeD{E:Value->Shared->Prop}{pins:List (Addr×Obj)}{s:Shared}{σ:St}{H:Hp}{x:Str}{u:Value}{pos:Pos}{Q:Value->Shared->Prop}(I:Inv X pins σ H s)(hg:Gl X x)(hm:X.mg x=none)(hv:bootBuiltins x=some u)(h:Q u s)(hn:x ≠ "__name__":=by decide)(hd:(x == ("__debug__" : Str))=false:=by decide):wpAny (model X.prog X.w) X.A (eval (.Name x pos) X.env) Q E s:=by
 obtain⟨mb,h1,h2⟩:=I.mod.blt
 exact Rx I.ok.kind hg (Calls.loadGlobal_builtin (by rw[I.ok.glob];exact I.mod.glob.keeps I.bk) hm (by rw[I.ok.blt];exact h1.keeps I.bk) ((h2 x hn).trans hv) h) hd
theorem Qfp{x:Str}{v:V}{u:Value}{pos:Pos}(hg:Gl X x)(hm:X.mg x=some u)(r:RelV v u)(hd:(x == ("__debug__" : Str))=false:=by decide):PE X (.Name x pos) (tC v) :=
 λ_ _ _ H _ I h=>Qcv I hg hm ⟨v,H,I,r,h⟩ hd
theorem QdP{x:Str}{v:V}{u:Value}{pos:Pos}(hg:Gl X x)(hm:X.mg x=none)(hv:bootBuiltins x=some u)(r:RelV v u)(hn:x ≠ "__name__":=by decide)(hd:(x == ("__debug__" : Str))=false:=by decide):PE X (.Name x pos) (tC v) :=
 λ_ _ _ H _ I h=>QeD I hg hm hv ⟨v,H,I,r,h⟩ hn hd
variable{a b:Expr}{ta tb:TE}{pos:Pos}
noncomputable def tB(t:TE):TT:=λσ H Q=>t σ H λx H1=>∃c,x=.bl c/\Q c H1
theorem Qmd{e:Expr}{t:TE}(h:PE X e t)(he:∀whole,isTrue e X.env whole=(do let v <-whole;standAt e.pos;holding [v] (truthy v)):=by intro _;rfl):PT X e (tB t):=by
 intro pins s σ H Q I hw
 refine isTrue_plain (thn (h pins s σ H _ I hw) λv s1 ⟨x,H1,I1,r1,q1⟩=>?_) (he _)
 obtain⟨d,rfl,q⟩:=q1
 cases r1
 exact Ts ⟨H1,I1,q⟩
variable{tA tB':TT}{rest:List Expr}
noncomputable def tAnd(t u:TT):TT:=λσ H Q=>t σ H λc H1=>if c=true then u σ H1 Q else Q false H1
noncomputable def tOr(t u:TT):TT:=λσ H Q=>t σ H λc H1=>if c=true then Q true H1 else u σ H1 Q
noncomputable def tNot(t:TT):TT:=λσ H Q=>t σ H λc H1=>Q (!c) H1
theorem QkS(ha:PT X a tA):PW X (.BoolOp .And [a] pos) tA:=by
 intro wh pins s σ H Q I h
 refine isTrue_and (thn (ha pins s σ H Q I h) λc s1 e=>?_)
 cases c with
 |true=>exact isTrue_and_nil e
 |false=>exact e
theorem Qme(ha:PT X a tA):PW X (.BoolOp .Or [a] pos) tA:=by
 intro wh pins s σ H Q I h
 refine isTrue_or (thn (ha pins s σ H Q I h) λc s1 e=>?_)
 cases c with
 |false=>exact isTrue_or_nil e
 |true=>exact e
theorem Qmf(ha:PT X a tA)(hb:PW X (.BoolOp .And (b::rest) pos) tB'):PW X (.BoolOp .And (a::b::rest) pos) (tAnd tA tB'):=by
 intro wh pins s σ H Q I h
 refine isTrue_and (thn (ha pins s σ H _ I h) λc s1 ⟨H1,I1,q1⟩=>?_)
 cases c with
 |true=>exact hb wh pins s1 σ H1 Q I1 q1
 |false=>exact⟨H1,I1,q1⟩
theorem QnH(ha:PT X a tA)(hb:PW X (.BoolOp .Or (b::rest) pos) tB'):PW X (.BoolOp .Or (a::b::rest) pos) (tOr tA tB'):=by
 intro wh pins s σ H Q I h
 refine isTrue_or (thn (ha pins s σ H _ I h) λc s1 ⟨H1,I1,q1⟩=>?_)
 cases c with
 |true=>exact⟨H1,I1,q1⟩
 |false=>exact hb wh pins s1 σ H1 Q I1 q1
theorem Qmg(ha:PT X a tA):PT X (.UnaryOp .Not a pos) (tNot tA):=by
 intro pins s σ H Q I h
 exact isTrue_not (ha pins s σ H (λc H1=>Q (!c) H1) I h)
noncomputable def QnI(ta tb:TE):TE:=λσ H Q=>ta σ H λx H1=>∃c,x=.bl c/\if c=true then tb σ H1 Q else Q (.bl false) H1
noncomputable def QnJ(ta:TE):TE:=λσ H Q=>ta σ H λx H1=>∃c,x=.bl c/\Q (.bl (!c)) H1
theorem Qmh{op}{t:TE}(h:PE X a t):PE X (.BoolOp op [a] pos) t:=λpins s σ H Q I hw=>BoolOp_one (h pins s σ H Q I hw)
theorem Qmi(ha:PE X a ta)(hb:PE X (.BoolOp .And (b::rest) pos) tb):PE X (.BoolOp .And (a::b::rest) pos) (QnI ta tb):=by
 intro pins s σ H Q I h
 refine BoolOp_and (thn (ha pins s σ H _ I h) λv s1 ⟨x,H1,I1,r1,q1⟩=>?_)
 obtain⟨c,rfl,q1⟩:=q1
 cases r1
 refine Ts ?_
 cases c with
 |true=>exact hb pins s1 σ H1 Q I1 q1
 |false=>exact⟨.bl false,H1,I1,rfl,q1⟩
theorem Qmj(ha:PE X a ta):PE X (.UnaryOp .Not a pos) (QnJ ta):=by
 intro pins s σ H Q I h
 refine UnaryOp_ (thn (ha pins s σ H _ I h) λv s1 ⟨x,H1,I1,r1,q1⟩=>?_)
 obtain⟨c,rfl,q1⟩:=q1
 cases r1
 exact not_of (Ts ⟨.bl (!c),H1,I1,rfl,q1⟩)
noncomputable def tIf(t:TT)(ta tb:TE):TE:=λσ H Q=>t σ H λc H1=>if c=true then ta σ H1 Q else tb σ H1 Q
theorem Qjl{c:Expr}(hc:PT X c tA)(ha:PE X a ta)(hb:PE X b tb):PE X (.IfExp c a b pos) (tIf tA ta tb):=by
 intro pins s σ H Q I h
 refine wpAny_IfExp (thn (hc pins s σ H _ I h) λd s1 ⟨H1,I1,q1⟩=>?_)
 cases d with
 |true=>exact ha pins s1 σ H1 Q I1 q1
 |false=>exact hb pins s1 σ H1 Q I1 q1
end
end
section
noncomputable def SqL(K:Frag)(H:Hp)(a:Addr)(xs:List V):Prop :=
 Rd H a (.lst xs) \/
  ∃(o:Obj)(its:Array Value)(n:Nat),K.lookup a=some o/\o.cls=.type "list" /\ o.dict=none/\o.data=.seq its n/\its.size<=sizeLine/\Vals xs its.toList
noncomputable def SqT(K:Frag)(H:Hp)(a:Addr)(xs:List V):Prop :=
 Rd H a (.tup xs) \/
  ∃(o:Obj)(its:Array Value)(n:Nat),K.lookup a=some o/\o.cls=.type "tuple" /\ o.data=.seq its n/\its.size<=sizeLine/\Vals xs its.toList
noncomputable def absV:Value->Option V
 |.none=>some .non
 |.bool b=>some (.bl b)
 |.int i _=>some (.int i)
 |.str x _=>some (.str x)
 |.bytes b _=>some (.byt b)
 |.float b _=>some (.flt b)
 |.ref a=>some (.ref a)
 |.type n=>some (.ty n)
 |_=>none
theorem RelV.abs{x:V}{u:Value}(r:RelV x u):absV u=some x:=by
 cases x with
 |non=>cases r;rfl
 |bl _=>cases r;rfl
 |int _=>obtain⟨t,rfl⟩:=r;rfl
 |str _=>obtain⟨t,rfl⟩:=r;rfl
 |byt _=>obtain⟨t,rfl⟩:=r;rfl
 |flt _=>obtain⟨t,rfl⟩:=r;rfl
 |ref _=>cases r;rfl
 |ty _=>cases r;rfl
theorem RelV.inj{x y:V}{u:Value}(r:RelV x u)(q:RelV y u):x=y:=Option.some.inj (r.abs.symm.trans q.abs)
theorem Vals.inj:∀{xs ys:List V}{us:List Value},Vals xs us->Vals ys us->xs=ys
 |_,_,_,.nil,.nil=>rfl
 |_,_,_,.cons r t,.cons r' t'=>by rw[r.inj r',Vals.inj t t']
section
variable{X:Cx}{pins:List (Addr×Obj)}{σ:St}{H:Hp}{s:Shared}{a:Addr}{xs ys:List V}
theorem SqL.of{K:Frag}(h:H a=some (.lst xs)):SqL K H a xs:=.inl (.inl h)
theorem SqT.of{K:Frag}(h:H a=some (.tup xs)):SqT K H a xs:=.inl (.inl h)
theorem Inv.list(I:Inv X pins σ H s)(h:SqL X.K H a xs):∃its:List Value,Vals xs its/\PlainL s.heap a its.toArray/\xs.length<=sizeLine:=by
 rcases h with h|⟨o,its,n,hk,hc,hd,hs,hz,r⟩
 ·obtain⟨z,its,n,r,e⟩:=h.ok I.hok
  exact⟨its,r,⟨_,n,e,rfl,rfl,rfl⟩,z⟩
 ·refine⟨its.toList,r,⟨o,n,I.kIn a o hk,hc,hd,by simpa using hs⟩,?_⟩
  have e:=r.length
  simp only[Ti]at e
  omega
theorem Inv.tuple(I:Inv X pins σ H s)(h:SqT X.K H a xs):∃its:List Value,Vals xs its/\IsTup s.heap a its.toArray/\xs.length<=sizeLine:=by
 rcases h with h|⟨o,its,n,hk,hc,hs,hz,r⟩
 ·obtain⟨z,its,r,p⟩:=h.ok I.hok
  exact⟨its,r,p,z⟩
 ·refine⟨its.toList,r,⟨o,I.kIn a o hk,hc,n,by simpa using hs⟩,?_⟩
  have e:=r.length
  simp only[Ti]at e
  omega
theorem Inv.list_inj(I:Inv X pins σ H s)(h:SqL X.K H a xs)(h':SqL X.K H a ys):xs=ys:=by
 obtain⟨its,r,⟨o,n,e,_,_,d⟩,_⟩:=I.list h
 obtain⟨its',r',⟨o',n',e',_,_,d'⟩,_⟩:=I.list h'
 rw[e]at e';cases e'
 rw[d]at d'
 injection d' with d1 _
 have:its=its':=by simpa using Wr Array.toList d1
 subst this
 exact r.inj r'
theorem Inv.tuple_inj(I:Inv X pins σ H s)(h:SqT X.K H a xs)(h':SqT X.K H a ys):xs=ys:=by
 obtain⟨its,r,⟨o,e,_,n,d⟩,_⟩:=I.tuple h
 obtain⟨its',r',⟨o',e',_,n',d'⟩,_⟩:=I.tuple h'
 rw[e]at e';cases e'
 rw[d]at d'
 injection d' with d1 _
 have:its=its':=by simpa using Wr Array.toList d1
 subst this
 exact r.inj r'
end
noncomputable abbrev Cx.wish(X:Cx)(E:Value->Shared->Prop):Cx:={X with xe:=E}
noncomputable abbrev Cx.nox(X:Cx):Cx:=X.wish λ_ _=>False
theorem Cx.Ok.wish{X:Cx}(ok:X.Ok)(E:Value->Shared->Prop):(X.wish E).Ok :=
 ⟨ok.mod,ok.kind,ok.glob,ok.blt,ok.above,ok.inj,ok.has,ok.cab,ok.hd,ok.frames,ok.stk,ok.exf,ok.bs,ok.bsz,ok.noex,ok.exfs,ok.funs,ok.frf⟩
theorem Cx.Ok.unwish{X:Cx}{E:Value->Shared->Prop}(ok:(X.wish E).Ok):X.Ok :=
 ⟨ok.mod,ok.kind,ok.glob,ok.blt,ok.above,ok.inj,ok.has,ok.cab,ok.hd,ok.frames,ok.stk,ok.exf,ok.bs,ok.bsz,ok.noex,ok.exfs,ok.funs,ok.frf⟩
section
variable{X:Cx}{pins:List (Addr×Obj)}{σ:St}{H:Hp}{s:Shared}{E:Value->Shared->Prop}
theorem Inv.wish(I:Inv X pins σ H s)(E:Value->Shared->Prop):Inv (X.wish E) pins σ H s:=⟨I.ok.wish E,I.os,I.bare,I.base,I.loc,I.cell,I.free,I.freeC,I.pin,I.hok,I.len⟩
theorem Inv.unwish(I:Inv (X.wish E) pins σ H s):Inv X pins σ H s:=⟨I.ok.unwish,I.os,I.bare,I.base,I.loc,I.cell,I.free,I.freeC,I.pin,I.hok,I.len⟩
theorem SP.unwish{D:Ends}{f:Flow}{s':Shared}(h:SP (X.wish E) pins D f s'):SP X pins D f s':=by
 cases f with
 |next=>obtain⟨σ',H',I,q⟩:=h;exact⟨σ',H',I.unwish,q⟩
 |brk=>obtain⟨σ',H',I,q⟩:=h;exact⟨σ',H',I.unwish,q⟩
 |cont=>obtain⟨σ',H',I,q⟩:=h;exact⟨σ',H',I.unwish,q⟩
 |ret u=>obtain⟨v,σ',H',I,r,q⟩:=h;exact⟨v,σ',H',I.unwish,r,q⟩
theorem PE.nox{e:Expr}{t:TE}(h:PE X.nox e t):PE X e t:=λpins s σ H Q I hw =>
 UV (h pins s σ H Q (I.wish _) hw) (λ_ _ ⟨v,H',I',r,q⟩=>⟨v,H',I'.unwish,r,q⟩) λ_ _ z=>False.elim z
theorem PT.nox{e:Expr}{t:TT}(h:PT X.nox e t):PT X e t:=λpins s σ H Q I hw =>
 UV (h pins s σ H Q (I.wish _) hw) (λ_ _ ⟨H',I',q⟩=>⟨H',I'.unwish,q⟩) λ_ _ z=>False.elim z
theorem PSs.nox{st:List Stmt}{t:TS}(h:PSs X.nox st t):PSs X st t:=λpins s σ H D I hw =>
 UV (h pins s σ H D (I.wish _) hw) (λ_ _ q=>q.unwish) λ_ _ z=>False.elim z
end
section
variable{X:Cx}{st:Stmt}{rest:List Stmt}{t u:TS}{e:Expr}{te:TE}{pos:Pos}
noncomputable def QnK:TS:=λD σ H=>D.nx σ H
noncomputable def tSeq(t u:TS):TS:=λD σ H=>t {D with nx:=u D} σ H
theorem Qhy:PSs X [] QnK:=λ_ _ σ H _ I h=>Rj ⟨σ,H,I,h⟩
theorem Qjm(h1:PS X st t)(h2:PSs X rest u):PSs X (st::rest) (tSeq t u):=by
 intro pins s σ H D I h
 refine wpAny_execs_cons (thn (h1 pins s σ H {D with nx:=u D} I h) λf s1 q=>?_)
 cases f with
 |next =>
  obtain⟨σ',H',I',q⟩:=q
  exact h2 pins s1 σ' H' D I' q
 |ret v=>exact q
 |brk=>exact q
 |cont=>exact q
theorem QkT(h1:PS X st t):PSs X [st] t:=by
 intro pins s σ H D I h
 refine wpAny_execs_cons (thn (h1 pins s σ H D I h) λf s1 q=>?_)
 cases f with
 |next=>exact Rj q
 |ret v=>exact q
 |brk=>exact q
 |cont=>exact q
theorem Inv.quiet{pins:List (Addr×Obj)}{σ:St}{H:Hp}{s:Shared}(I:Inv X pins σ H s):interactive X.env=false:=by simp[interactive,I.ok.kind]
noncomputable def QnL(te:TE):TS:=λD σ H=>te σ H λ_ H1=>D.nx σ H1
theorem QkU(he:PE X e te)(hs:swapsWith e none pos.line X.env=pure false:=by rfl):PS X (.Expr e pos) (QnL te):=by
 intro pins s σ H D I h
 exact wpAny_Expr_any (thn (he pins s σ H _ I h) λv s1 ⟨x,H1,I1,r1,q1⟩=>⟨σ,H1,I1,q1⟩) I.quiet hs
noncomputable def tRet(te:TE):TS:=λD σ H=>te σ H D.rt
theorem Qmk(he:PE X e te):PS X (.Return (some e) pos) (tRet te):=by
 intro pins s σ H D I h
 exact wpAny_Return_some (thn (he pins s σ H _ I h) λv s1 ⟨x,H1,I1,r1,q1⟩=>⟨x,σ,H1,I1,r1,q1⟩)
noncomputable def tIfS(c:TT)(t u:TS):TS:=λD σ H=>c σ H λb H1=>if b=true then t D σ H1 else u D σ H1
theorem QnM{c:Expr}{a b:List Stmt}{tc:TT}(hc:PT X c tc)(ha:PSs X a t)(hb:PSs X b u):PS X (.If c a b pos) (tIfS tc t u):=by
 intro pins s σ H D I h
 refine wpAny_If (thn (hc pins s σ H _ I h) λd s1 ⟨H1,I1,q1⟩=>?_)
 cases d with
 |true=>exact ha pins s1 σ H1 D I1 q1
 |false=>exact hb pins s1 σ H1 D I1 q1
end
noncomputable abbrev TG:=V->St->Hp->(St->Hp->Prop)->Prop
noncomputable abbrev TGs:=List V->St->Hp->(St->Hp->Prop)->Prop
noncomputable def PG(X:Cx)(target:Expr)(t:TG):Prop :=
 ∀(pins:List (Addr×Obj))(s:Shared)(σ:St)(H:Hp)(v:V)(u:Value)(Q:St->Hp->Prop),Inv X pins σ H s->RelV v u->t v σ H Q ->
  wpAny (model X.prog X.w) X.A (assign target X.env u) (λ_ s'=>∃σ' H',Inv X pins σ' H' s'/\Q σ' H') X.xe s
noncomputable def PGs(X:Cx)(ts:List Expr)(t:TGs):Prop :=
 ∀(pins:List (Addr×Obj))(s:Shared)(σ:St)(H:Hp)(vs:List V)(us:List Value)(Q:St->Hp->Prop),Inv X pins σ H s->Vals vs us->t vs σ H Q ->
  wpAny (model X.prog X.w) X.A (assignInOrder ((assignEach ts X.env).map (·.2)) us) (λ_ s'=>∃σ' H',Inv X pins σ' H' s'/\Q σ' H') X.xe s
noncomputable abbrev TSet:=V->V->V->Hp->(Hp->Prop)->Prop
noncomputable def PSet(X:Cx)(t:TSet):Prop :=
 ∀(pins:List (Addr×Obj))(s:Shared)(σ:St)(H:Hp)(o i v:V)(ov iv u:Value)(Q:Hp->Prop),Inv X pins σ H s->RelV o ov->RelV i iv->RelV v u->t o i v H Q ->
  wpAny (model X.prog X.w) X.A (setItem ov iv u) (λ_ s'=>∃H',Inv X pins σ H' s'/\Q H') X.xe s
section
variable{X:Cx}{pos:Pos}
noncomputable def Qml(i:Nat):TG:=λv σ H Q=>Q (σ.set i (some v)) H
theorem QkV{i:Nat}{x:Str}(hN:X.N.Nodup)(hi:X.N[i]?=some x)(hx:Loc X.env.scope x)(hf:X.fn x=true\/X.env.scope.names.lookup x=some .local:=by first|exact .inl rfl|exact .inr rfl|assumption):PG X (.Name x pos) (Qml i):=by
 intro pins s σ H v u Q I r h
 exact wpAny_assign_Name (Qch I hN hi hx r (λs' I'=>⟨_,H,I',h⟩) hf)
noncomputable def gNil:TGs:=λvs σ H Q=>vs=[]/\Q σ H
noncomputable def QnN(t:TG)(u:TGs):TGs:=λvs σ H Q=>∃v r,vs=v::r/\t v σ H λσ' H'=>u r σ' H' Q
theorem QkW:PGs X [] gNil:=by
 intro pins s σ H vs us Q I r h
 obtain⟨e,h⟩:=h
 subst e
 cases r
 exact assignInOrder_nil ⟨σ,H,I,h⟩
theorem Qjn{e:Expr}{es:List Expr}{t:TG}{u:TGs}(h1:PG X e t)(h2:PGs X es u)(hs:(assignEach (e::es) X.env).map (·.2)=assign e X.env::(assignEach es X.env).map (·.2):=by rfl):PGs X (e::es) (QnN t u):=by
 intro pins s σ H vs us Q I r h
 obtain⟨v,vr,e1,h⟩:=h
 subst e1
 cases r with
 |cons r rr =>
  rw[hs]
  refine assignInOrder_cons (thn (h1 pins s σ H _ _ _ I r h) λ_ s1 ⟨σ1,H1,I1,q1⟩=>?_)
  exact h2 pins s1 σ1 H1 _ _ Q I1 rr q1
noncomputable def gTup(K:Frag)(n:Nat)(t:TGs):TG:=λv σ H Q=>∃a xs,v=.ref a/\SqT K H a xs/\xs.length=n/\t xs σ H Q
theorem Qmm{es:List Expr}{k:Nat}{t:TGs}{n:Nat}(hc:X.calm=true)(h:PGs X es t)(hn:(assignEach es X.env).length=n:=by rfl)(hst:(assignEach es X.env).findIdx? (·.1)=none:=by rfl):PG X (.Tuple es k pos) (gTup X.K n t):=by
 intro pins s σ H v u Q I r hw
 obtain⟨a,xs,e1,hq,hl,hw⟩:=hw
 subst e1
 cases r
 obtain⟨its,rv,ht,hz⟩:=I.tuple hq
 refine assign_Tuple_tuple (I.ok.hd hc) ht (by simp[hn,<-hl,rv.length]) hst λh' hx=>?_
 have I1:Inv X pins σ H {s with heap:=h'}:=I.kept (t':=s.toks) λb o e=>hx b o (UI (Uk e)) e
 exact h pins _ σ H xs _ Q I1 (by simpa using rv) hw
noncomputable def gSub(to ti:TE)(t:TSet):TG:=λv σ H Q=>to σ H λo H1=>ti σ H1 λi H2=>t o i v H2 λH3=>Q σ H3
theorem Qmn{o i:Expr}{to ti:TE}{t:TSet}(ho:PE X o to)(hi:PE X i ti)(hs:PSet X t)(ha:∀v,assign (.Subscript o i pos) X.env v=(do
   let ov <-holding [v] (eval o X.env)
   let iv <-holding [v,ov] (eval i X.env)
   standAt pos
   holding [v,ov,iv] (setItem ov iv v)
   release [v,ov,iv] []):=by intro _;rfl):PG X (.Subscript o i pos) (gSub to ti t):=by
 intro pins s σ H v u Q I r h
 rw[ha]
 refine Ua (Tu (thn (ho pins s σ H _ I h) λov s1 ⟨x,H1,I1,r1,q1⟩=>?_))
 refine Ua (Tu (thn (hi pins s1 σ H1 _ I1 q1) λiv s2 ⟨y,H2,I2,r2,q2⟩=>?_))
 refine Ua (wpAny_standAt (Ua (Tu (thn (hs pins s2 σ H2 x y v ov iv u _ I2 r1 r2 r q2) λ_ s3 ⟨H3,I3,q3⟩=>?_))))
 exact wpAny_release ⟨σ,H3,I3,q3⟩
noncomputable def tAsg(te:TE)(g:TG):TS:=λD σ H=>te σ H λx H1=>g x σ H1 D.nx
theorem Qkk{tg e:Expr}{te:TE}{g:TG}(he:PE X e te)(hg:PG X tg g)(hs:swapsWithSole [tg] e pos.line X.env=pure false:=by rfl)(hw:swappedStores [tg] e X.env=pure none:=by rfl)(h1:(assignEach [tg] X.env).map (·.2)=[assign tg X.env]:=by rfl):PS X (.Assign [tg] e pos) (tAsg te g):=by
 intro pins s σ H D I h
 refine wpAny_Assign_stores (thn (he pins s σ H _ I h) λv s1 ⟨x,H1,I1,r1,q1⟩=>?_) hs hw
 rw[h1]
 exact thn (hg pins s1 σ H1 x v _ I1 r1 q1) λ_ s2 q=>q
theorem Qmo{i:Nat}{x:Str}{e:Expr}{te:TE}{pos':Pos}(hN:X.N.Nodup)(hi:X.N[i]?=some x)(hx:Loc X.env.scope x)(he:PE X e te)(hs:swapsWith e (some (.Name x pos')) pos.line X.env=pure false:=by rfl)(hf:X.fn x=true\/X.env.scope.names.lookup x=some .local:=by first|exact .inl rfl|exact .inr rfl|assumption):
  PS X (.Assign [.Name x pos'] e pos) (tAsg te (Qml i)):=by
 intro pins s σ H D I h
 refine wpAny_Assign_Name (thn (he pins s σ H _ I h) λv s1 ⟨y,H1,I1,r1,q1⟩=>?_) hs
 exact Qch I1 hN hi hx r1 (λs2 I2=>⟨_,H1,I2,q1⟩) hf
end
section
variable{X:Cx}{pos:Pos}
noncomputable def Qmp(c:TT)(tb:TS):TS:=λD σ H=>∃W:Nat->St->Hp->Prop,(∃m,W m σ H)/\∀m σ H,W m σ H ->
 c σ H λb H1=>if b=true then ∃N:St->Hp->Prop,(∀σ' H',N σ' H'->∃m',m'<m/\W m' σ' H')/\tb {D with nx:=N,ct:=N,bk:=D.nx} σ H1 else D.nx σ H1
theorem Qjo{c:Expr}{body:List Stmt}{tc:TT}{tb:TS}(hp:PassesOwn (model X.prog X.w) X.A X.env X.xe)(hc:PT X c tc)(hb:PSs X body tb):PS X (.While c body [] pos) (Qmp tc tb):=by
 intro pins s σ H D I h
 obtain⟨W,⟨m0,w0⟩,turn⟩:=h
 refine wpAny_While (codeAny_whileLoop (λn s'=>∃σ' H',Inv X pins σ' H' s'/\W n σ' H') ?_ m0 ⟨σ,H,I,w0⟩)
 rintro n s1 ⟨σ1,H1,I1,w1⟩
 refine Tr hp (thn (hc pins s1 σ1 H1 _ I1 (turn n σ1 H1 w1)) λb s2 ⟨H2,I2,q2⟩=>?_)
 cases b with
 |true =>
  obtain⟨N,hN,q2⟩:=q2
  rw[Uh rfl]
  refine Tr hp (thn (hb pins s2 σ1 H2 _ I2 q2) λf s3 q3=>?_)
  cases f with
  |next =>
   obtain⟨σ3,H3,I3,n3⟩:=q3
   obtain⟨m',hm,w3⟩:=hN σ3 H3 n3
   exact⟨m',hm,σ3,H3,I3,w3⟩
  |cont =>
   obtain⟨σ3,H3,I3,n3⟩:=q3
   obtain⟨m',hm,w3⟩:=hN σ3 H3 n3
   exact⟨m',hm,σ3,H3,I3,w3⟩
  |brk=>exact q3
  |ret v=>exact q3
 |false =>
  rw[Um Uc]
  exact Rj ⟨σ1,H2,I2,q2⟩
end
structure It where
 go:Nat->Hp->Prop
 yld:Nat->Hp->V->Hp->Prop
 stop:Nat->Hp->Prop
noncomputable def FpOk(X:Cx)(pins:List (Addr×Obj))(H:Hp)(b:Addr):Prop :=
 H b=none/\b≠X.env.locals/\b∉X.fs/\(b∈X.ex\/X.s₀.heap.objs.size<=b)/\(∀x c,X.env.cells.lookup x=some c->c≠b)/\∀p∈X.pn++pins,p.1≠b
theorem Inv.fpOk{X:Cx}{pins:List (Addr×Obj)}{σ:St}{H H':Hp}{s:Shared}{b:Addr}(I:Inv X pins σ H s)(hb:s.heap.objs.size<=b)(hn:H' b=none):FpOk X pins H' b:=by
 refine⟨hn,Rw (Ux I.lt hb),I.nofs hb,.inr (Uw I.sz hb),λx c e z=>?_,λp hp z=>?_⟩
 ·obtain⟨v,q⟩:=I.cell x c e
  exact absurd (Ux q.lt (by rw[z];exact hb)) (Tl _)
 ·exact absurd (Ux (Uk (I.pin p hp).1) (by rw[z];exact hb)) (Tl _)
structure Turn(P:Program)(w:World)(K:Frag)(tg:Expr)(J:It)(fp:List Addr)(it:Addr)(tn:Nat->Heap->Prop):Prop where
 mem:it∈fp
 obj:∀i h,tn i h->∀b∈fp,∃o,h.get? b=some o/\∀v,o.data≠.cell v
 keep:∀i h h',tn i h->(∀b∈fp,∀o,h.get? b=some o->h'.get? b=some o)->tn i h'
 item:∀(X:Cx),X.prog=P->X.w=w->X.K=K->X.calm=true->∀(i:Nat)(pins:List (Addr×Obj))(s:Shared)(σ:St)(H:Hp)(E:Value->Shared->Prop),Inv X pins σ H s->(∀b∈fp,FpOk X pins H b)->tn i s.heap->J.go i H ->
  wpAny (model P w) X.A (pyNext (.ref it)) (λr s1=>∃u,r=some u /\
   wpAny (model P w) X.A (letOwnedTupleGo tg (.ref it) u) (λ_ s2=>∃x H',Inv X pins σ H' s2/\RelV x u/\J.yld i H x H'/\tn (i+1) s2.heap/\∀b∈fp,H' b=none) E s1) E s
 done:∀(X:Cx),X.prog=P->X.w=w->X.K=K->X.calm=true->∀(i:Nat)(pins:List (Addr×Obj))(s:Shared)(σ:St)(H:Hp)(E:Value->Shared->Prop),Inv X pins σ H s->(∀b∈fp,FpOk X pins H b)->tn i s.heap->J.stop i H ->
  wpAny (model P w) X.A (pyNext (.ref it)) (λr s1=>r=none/\Inv X pins σ H s1) E s
 self:∀(A:Around)(i:Nat)(s:Shared)(Q:Value->Shared->Prop)(E:Value->Shared->Prop),tn i s.heap->Q (.ref it) s->wpAny (model P w) A (pyIter (.ref it)) Q E s
noncomputable abbrev TI:=St->Hp->(It->Hp->Prop)->Prop
noncomputable def PIE(X:Cx)(pins:List (Addr×Obj))(σ:St)(tg:Expr)(R:It->Hp->Prop)(itv:Value)(s2:Shared):Prop :=
 ∃(it:Addr)(fp:List Addr)(tn:Nat->Heap->Prop)(J:It)(H':Hp),itv=.ref it/\Inv X pins σ H' s2/\Turn X.prog X.w X.K tg J fp it tn/\tn 0 s2.heap/\(∀b∈fp,FpOk X pins H' b)/\R J H'
noncomputable def PI(X:Cx)(tg iter:Expr)(wi:TI):Prop :=
 ∀(pins:List (Addr×Obj))(s:Shared)(σ:St)(H:Hp)(R:It->Hp->Prop),Inv X pins σ H s->wi σ H R ->
  wpAny (model X.prog X.w) X.A (eval iter X.env) (λv s1=>wpAny (model X.prog X.w) X.A (pyIter v) (PIE X pins σ tg R) X.xe s1) X.xe s
theorem QkX{M:Model}{A:Around}{E:Value->Shared->Prop}{s:Shared}{tg:Expr}{it:Addr}{u:Value}{o:Obj}{n:String}{vs:Array Value}{Q:Unit->Shared->Prop}(ho:s.heap.get? it=some o)(hc:o.cls=.type n)(hd:o.data=.fields vs)(hn:["enumerate", "zip", "dict_itemiterator", "dict_reverseitemiterator", "odict_iterator", "itertools.zip_longest", "itertools.pairwise"].contains n=false)(hQ:Q () s):wpAny M A (letOwnedTupleGo tg (.ref it) u) Q E s:=by
  unfold letOwnedTupleGo
  cases tg <;> first
    |exact Uj hQ
    | (cases u <;> first
        |exact Uj hQ
        | (refine Ua (wpAny_load ho ?_)
           rw[hc,hd]
           show wpAny M A (if (["enumerate", "zip", "dict_itemiterator", "dict_reverseitemiterator", "odict_iterator", "itertools.zip_longest", "itertools.pairwise"].contains n && vs[0]? == some (rawInt _))=true then _ else _) Q E s
           rw[Um (by intro h;rw[hn,T5]at h;cases h)]
           exact Uj hQ))
noncomputable def Itl(K:Frag)(a:Addr):It :=
 ⟨λi H=>∃xs x,SqL K H a xs/\xs[i]?=some x,λi H x H'=>H'=H/\∀xs,SqL K H a xs->xs[i]?=some x,λi H=>∃xs,SqL K H a xs/\xs.length<=i⟩
noncomputable def Itt(K:Frag)(a:Addr):It :=
 ⟨λi H=>∃xs x,SqT K H a xs/\xs[i]?=some x,λi H x H'=>H'=H/\∀xs,SqT K H a xs->xs[i]?=some x,λi H=>∃xs,SqT K H a xs/\xs.length<=i⟩
noncomputable def Itr(lo:Int)(n:Nat):It:=⟨λi _=>i<n,λi H x H'=>H'=H/\x=.int (lo+i),λi _=>n<=i⟩
theorem Qhz{P:Program}{w:World}{K:Frag}{tg:Expr}(a it:Addr):Turn P w K tg (Itl K a) [it] it (λi h=>h.IsListIter it a i) where
 mem:=by simp
 obj:=λi h st b hb=>by
  have e:b=it:=by simpa using hb
  subst e
  obtain⟨o,e,c,d⟩:=st
  exact⟨o,e,λv z=>by rw[d]at z;cases z⟩
 keep:=λi h h' st k=>st.at λo e=>k it (by simp) o e
 item:=by
  intro X hP hw hK hc i pins s σ H E I hf st hg
  subst hP hw hK
  obtain⟨xs,x,hq,hx⟩:=hg
  obtain⟨its,rv,p,hz⟩:=I.list hq
  obtain⟨u,hu,ru⟩:=rv.get hx
  obtain⟨f0,f1,f2,f3,f4,f5⟩:=hf it (by simp)
  refine wpAny_pyNext_list_item st p.isList (x:=u) (by simpa using hu) λh' st' sb=>?_
  have I1:Inv X pins σ H {s with heap:=h'}:=I.turned (t':=s.toks) (λb o hb e=>(sb.2 b hb).trans e) f0 f1 f3 f4 f5
  obtain⟨o,e,c,d⟩:=id st'
  exact⟨u,rfl,QkX (s:={s with heap:=h'}) e c d (by decide) ⟨x,H,I1,ru,⟨rfl,λys hy=>by rw[I.list_inj hy hq];exact hx⟩,st',λb hb=>(hf b hb).1⟩⟩
 done:=by
  intro X hP hw hK hc i pins s σ H E I hf st hg
  subst hP hw hK
  obtain⟨xs,hq,hx⟩:=hg
  obtain⟨its,rv,p,hz⟩:=I.list hq
  obtain⟨f0,f1,f2,f3,f4,f5⟩:=hf it (by simp)
  have hl:=rv.length
  exact wpAny_pyNext_list_end (I.ok.hd hc) st p.isList (by simp;omega) λh' eb=>⟨rfl,I.turned (t':=s.toks) (λb o hb e=>eb b o hb e) f0 f1 f3 f4 f5⟩
 self:=λ_ _ _ _ _ st h=>wpAny_pyIter_listiter st h
theorem QgN{P:Program}{w:World}{K:Frag}{tg:Expr}(a it:Addr):Turn P w K tg (Itt K a) [it] it (λi h=>h.IsTupleIter it a i) where
 mem:=by simp
 obj:=λi h st b hb=>by
  have e:b=it:=by simpa using hb
  subst e
  obtain⟨o,e,c,d⟩:=st
  exact⟨o,e,λv z=>by rw[d]at z;cases z⟩
 keep:=λi h h' st k=>st.at λo e=>k it (by simp) o e
 item:=by
  intro X hP hw hK hc i pins s σ H E I hf st hg
  subst hP hw hK
  obtain⟨xs,x,hq,hx⟩:=hg
  obtain⟨its,rv,p,hz⟩:=I.tuple hq
  obtain⟨u,hu,ru⟩:=rv.get hx
  obtain⟨f0,f1,f2,f3,f4,f5⟩:=hf it (by simp)
  refine wpAny_pyNext_tuple_item st (show s.heap.IsTuple a its.toArray from p) (x:=u) (by simpa using hu) λh' st' sb=>?_
  have I1:Inv X pins σ H {s with heap:=h'}:=I.turned (t':=s.toks) (λb o hb e=>(sb.2 b hb).trans e) f0 f1 f3 f4 f5
  obtain⟨o,e,c,d⟩:=id st'
  exact⟨u,rfl,QkX (s:={s with heap:=h'}) e c d (by decide) ⟨x,H,I1,ru,⟨rfl,λys hy=>by rw[I.tuple_inj hy hq];exact hx⟩,st',λb hb=>(hf b hb).1⟩⟩
 done:=by
  intro X hP hw hK hc i pins s σ H E I hf st hg
  subst hP hw hK
  obtain⟨xs,hq,hx⟩:=hg
  obtain⟨its,rv,p,hz⟩:=I.tuple hq
  obtain⟨f0,f1,f2,f3,f4,f5⟩:=hf it (by simp)
  have hl:=rv.length
  exact wpAny_pyNext_tuple_end (I.ok.hd hc) st (show s.heap.IsTuple a its.toArray from p) (by simp;omega) λh' eb=>⟨rfl,I.turned (t':=s.toks) (λb o hb e=>eb b o hb e) f0 f1 f3 f4 f5⟩
 self:=λ_ _ _ _ _ st h=>wpAny_pyIter_tupleiter st h
theorem QgO{P:Program}{w:World}{K:Frag}{tg:Expr}(it:Addr)(lo:Int)(n:Nat):Turn P w K tg (Itr lo n) [it] it (λi h=>IsRangeIter h it (lo+(i:Nat)*1) ((n:Int) - (i:Nat)) 1) where
 mem:=by simp
 obj:=λi h st b hb=>by
  have e:b=it:=by simpa using hb
  subst e
  exact⟨_,st,λv z=>by
   have z':Data.fields _=Data.cell v:=z
   cases z'⟩
 keep:=λi h h' st k=>k it (by simp) _ st
 item:=by
  intro X hP hw hK hc i pins s σ H E I hf st hg
  subst hP hw hK
  obtain⟨f0,f1,f2,f3,f4,f5⟩:=hf it (by simp)
  have W:=Walks.range (prog:=X.prog) (w:=X.w) (I.ok.hd hc) it lo 1 n
  refine W.item i s _ _ hg st λv h' tk hv st' kk=>?_
  obtain⟨t,rfl⟩:=hv
  have I1:Inv X pins σ H {s with heap:=h',toks:=tk}:=I.turned (λb o hb e=>kk b o (by simpa using hb) e) f0 f1 f3 f4 f5
  refine⟨_,rfl,QkX (s:={s with heap:=h',toks:=tk}) (n:="range_iterator") st' rfl rfl (by decide) ⟨.int (lo+i),H,I1,⟨t,?_⟩,⟨rfl,rfl⟩,st',λb hb=>(hf b hb).1⟩⟩
  rw[Int.mul_one]
 done:=by
  intro X hP hw hK hc i pins s σ H E I hf st hg
  subst hP hw hK
  obtain⟨f0,f1,f2,f3,f4,f5⟩:=hf it (by simp)
  exact wpAny_pyNext_range_end (I.ok.hd hc) st (by have:n<=i:=hg;omega) λh' eb=>⟨rfl,I.turned (t':=s.toks) (λb o hb e=>eb b o hb e) f0 f1 f3 f4 f5⟩
 self:=λ_ _ _ _ _ st h=>wpAny_pyIter_rangeiter st h
end
section
section
variable{X:Cx}{tg:Expr}
theorem Qjp{pins:List (Addr×Obj)}{σ:St}{H:Hp}{s:Shared}{R:It->Hp->Prop}{E:Value->Shared->Prop}{lo hi:Int}{t u v:Tok}{tk:Nat}(I:Inv X pins σ H s)(h1:-(2^62)<=lo)(h2:lo<2^62)(h3:-(2^62)<=hi)(h4:hi<2^62)(q:R (Itr lo (hi-lo).toNat) H):wpAny (model X.prog X.w) X.A (pyIter (.ref s.heap.objs.size)) (PIE X pins σ tg R) E {s with heap:=s.heap.push {cls:=.type "range",data:=.fields #[.int lo t,.int hi u,.int 1 v]},toks:=tk}:=by
 refine wpAny_pyIter_range (IsRange.new ..) (small_one h1 h2 h3 h4) ?_
 have I1:Inv X pins σ H {s with heap:=s.heap.push {cls:=.type "range",data:=.fields #[.int lo t,.int hi u,.int 1 v]},toks:=tk}:=I.kept λb o e=>Ub _ e
 refine⟨(s.heap.push {cls:=.type "range",data:=.fields #[.int lo t,.int hi u,.int 1 v]}).objs.size,[(s.heap.push {cls:=.type "range",data:=.fields #[.int lo t,.int hi u,.int 1 v]}).objs.size],_,_,H,rfl,
  I1.kept (t':=tk) λb o e=>Ub _ e,QgO _ lo (hi-lo).toNat,?_,λb hb=>?_,q⟩
 ·have e1:lo+((0:Nat):Int)*1=lo:=by simp
  have e2:(((hi-lo).toNat:Nat):Int) - ((0:Nat):Int)=Builtin.Range.rangeSize lo hi 1:=by rw[rangeSize_one];split <;> omega
  show IsRangeIter _ _ (lo+((0:Nat):Int)*1) ((((hi-lo).toNat:Nat):Int) - ((0:Nat):Int)) 1
  rw[e1,e2]
  exact Ur _ rfl
 ·have e:b=(s.heap.push {cls:=.type "range",data:=.fields #[.int lo t,.int hi u,.int 1 v]}).objs.size:=by simpa using hb
  subst e
  exact I1.fpOk (Ul _) (I1.hok.fresh (Ul _))
noncomputable def QnO(ta:TA):TI:=λσ H R=>ta σ H λvs H1=>∃j:Int,vs=[.int j] /\ -(2^62)<=j/\j<2^62/\R (Itr 0 j.toNat) H1
theorem QhA{a:Expr}{ta:TA}{p pos:Pos}(hg:Gl X "range")(hm:X.mg "range" = none)(ha:PA X [a] ta)(hs:starEach [a] X.env=[(false,eval a X.env)]:=by rfl):PI X tg (.Call (.Name "range" p) [a] [] pos) (QnO ta):=by
 intro pins s σ H R I h
 refine Call_ (QeD I hg hm boot_range (TC (thn (ha pos pins s σ H _ I h) λus s1 ⟨vs,H1,I1,r1,q1⟩=>?_) hs rfl))
 obtain⟨j,e,q1,q2,q⟩:=q1
 subst e
 cases r1 with
 |cons r rr =>
  cases rr
  obtain⟨t,rfl⟩:=r
  exact call_range_1 (Qjp I1 (by omega) (by omega) q1 q2 (by simpa using q))
noncomputable def tFor(wi:TI)(g:TG)(tb:TS):TS:=λD σ H=>wi σ H λJ H1=>∃W:Nat->Nat->St->Hp->Prop,(∃m,W 0 m σ H1)/\∀i m σ H,W i m σ H ->
 (J.stop i H/\D.nx σ H)\/(J.go i H/\∃N:St->Hp->Prop,(∀σ' H',N σ' H'->∃m',m'<m/\W (i+1) m' σ' H')/\∀x H',J.yld i H x H'->g x σ H' λσ2 H2=>tb {D with nx:=N,ct:=N,bk:=D.nx} σ2 H2)
noncomputable def QeE(fp:List Addr)(h:Heap):List (Addr×Obj):=fp.filterMap λb=>(h.get? b).map λo=>(b,o)
theorem QaL{fp:List Addr}{h:Heap}{b:Addr}{o:Obj}(hb:b∈fp)(e:h.get? b=some o):(b,o)∈QeE fp h:=RC.mpr ⟨b,hb,by rw[e];rfl⟩
theorem QhB{fp:List Addr}{h:Heap}{p:Addr×Obj}(hp:p∈QeE fp h):p.1∈fp/\h.get? p.1=some p.2:=by
 obtain⟨b,hb,e⟩:=RC.mp hp
 cases q:h.get? b with
 |none=>rw[q]at e;cases e
 |some o =>
  rw[q]at e
  have e':(b,o)=p:=Option.some.inj e
  subst e'
  exact⟨hb,q⟩
theorem Inv.pinned{pins:List (Addr×Obj)}{σ:St}{H:Hp}{s:Shared}{fp:List Addr}(I:Inv X pins σ H s)(hf:∀b∈fp,FpOk X pins H b)(ho:∀b∈fp,∃o,s.heap.get? b=some o/\∀v,o.data≠.cell v):Inv X (pins++QeE fp s.heap) σ H s :=
 I.pins_of λp hp=>(Up.mp hp).elim (λz=>I.pin p (Uv _ z)) λz=>by
  obtain⟨hb,e⟩:=QhB z
  obtain⟨f0,f1,f2,_⟩:=hf p.1 hb
  obtain⟨o,e',d⟩:=ho p.1 hb
  rw[e]at e';cases e'
  exact⟨e,f0,f1,f2,d⟩
theorem Inv.unpinned{pins pl:List (Addr×Obj)}{σ:St}{H:Hp}{s:Shared}(I:Inv X (pins++pl) σ H s):Inv X pins σ H s:=I.pins_of λp hp=>I.pin p (Uv _ (Te _ hp))
theorem Qmq{iter:Expr}{body:List Stmt}{wi:TI}{g:TG}{tb:TS}{pos:Pos}(hp:PassesOwn (model X.prog X.w) X.A X.env X.xe)(hc:X.calm=true)(hi:PI X tg iter wi)(hg:PG X tg g)(hb:PSs X body tb)(hs:∀x,foldedSetIterable iter X.env x=pure x:=by intro _;rfl):PS X (.For tg iter body [] pos) (tFor wi g tb):=by
 intro pins s σ H D I h
 refine wpAny_For (thn (hi pins s σ H _ I h) λv s1 h1=>thn h1 λitv s2 h2=>?_) hs
 obtain⟨it,fp,tn,J,H2,e,I2,T,st2,f2,W,⟨m0,w0⟩,turn⟩:=h2
 subst e
 -- what stays true of the iterator's objects through the loop
 have stat:∀{H':Hp},(∀b∈fp,H' b=none)->∀b∈fp,FpOk X pins H' b:=λhn b hb=>⟨hn b hb,(f2 b hb).2⟩
 refine codeAny_forLoop_any (λn s'=>∃i σ' H',Inv X pins σ' H' s'/\tn i s'.heap/\(∀b∈fp,H' b=none)/\W i n σ' H') ?_ m0 ⟨0,σ,H2,I2,st2,λb hb=>(f2 b hb).1,w0⟩
 rintro n s3 ⟨i,σ3,H3,I3,st3,fr3,w3⟩
 rcases turn i n σ3 H3 w3 with⟨stop,qn⟩|⟨go,N,hN,step⟩
 ·refine Tr hp (thn (T.done X rfl rfl rfl hc i pins s3 σ3 H3 X.xe I3 (stat fr3) st3 stop) λr s4 ⟨hr,I4⟩=>?_)
  subst hr
  exact Rj ⟨σ3,H3,I4,qn⟩
 ·refine Tr hp (thn (T.item X rfl rfl rfl hc i pins s3 σ3 H3 X.xe I3 (stat fr3) st3 go) λr s4 ⟨u,hr,h4⟩=>?_)
  subst hr
  refine Tr hp (thn h4 λ_ s5 ⟨x,H5,I5,r5,y5,st5,fr5⟩=>?_)
  have I5':=I5.pinned (stat fr5) (T.obj _ _ st5)
  refine Tr hp (thn (hg _ s5 σ3 H5 x u _ I5' r5 (step x H5 y5)) λ_ s6 ⟨σ6,H6,I6,q6⟩=>?_)
  refine Tr hp (thn (hb _ s6 σ6 H6 _ I6 q6) λf s7 q7=>?_)
  have again:∀{σ7:St}{H7:Hp},Inv X (pins++QeE fp s5.heap) σ7 H7 s7->N σ7 H7->∃m,m<n/\∃i σ' H',Inv X pins σ' H' s7/\tn i s7.heap/\(∀b∈fp,H' b=none)/\W i m σ' H':=λ{σ7 H7} I7 n7=>by
   obtain⟨m',hm,w7⟩:=hN σ7 H7 n7
   refine⟨m',hm,i+1,σ7,H7,I7.unpinned,T.keep _ _ _ st5 λb hb o e=>(I7.pin (b,o) (Uv _ (Uv _ (QaL hb e)))).1,λb hb=>?_,w7⟩
   obtain⟨o,e,d⟩:=T.obj _ _ st5 b hb
   exact(I7.pin (b,o) (Uv _ (Uv _ (QaL hb e)))).2.1
  cases f with
  |next=>obtain⟨σ7,H7,I7,n7⟩:=q7;exact again I7 n7
  |cont=>obtain⟨σ7,H7,I7,n7⟩:=q7;exact again I7 n7
  |brk=>obtain⟨σ7,H7,I7,q7⟩:=q7;exact⟨σ7,H7,I7.unpinned,q7⟩
  |ret v=>obtain⟨x7,σ7,H7,I7,r7,q7⟩:=q7;exact⟨x7,σ7,H7,I7.unpinned,r7,q7⟩
end
end
section
noncomputable abbrev R2:=V->V->Hp->VK->Prop
noncomputable def OpR(X:Cx)(f:Value->Value->Sem Value)(r:R2):Prop :=
 ∀(pins:List (Addr×Obj))(s:Shared)(σ:St)(H:Hp)(x y:V)(v u:Value)(Q:VK),Inv X pins σ H s->RelV x v->RelV y u->r x y H Q ->
  wpAny (model X.prog X.w) X.A (f v u) (EP X pins σ Q) X.xe s
noncomputable def UnR(X:Cx)(f:Value->Sem Value)(r:V->Hp->VK->Prop):Prop :=
 ∀(pins:List (Addr×Obj))(s:Shared)(σ:St)(H:Hp)(x:V)(v:Value)(Q:VK),Inv X pins σ H s->RelV x v->r x H Q ->
  wpAny (model X.prog X.w) X.A (f v) (EP X pins σ Q) X.xe s
noncomputable def CallR(X:Cx)(f:Value)(r:List V->Hp->VK->Prop):Prop :=
 ∀(pins:List (Addr×Obj))(s:Shared)(σ:St)(H:Hp)(xs:List V)(us:List Value)(Q:VK),Inv X pins σ H s->Vals xs us->r xs H Q ->
  wpAny (model X.prog X.w) X.A (call f us) (EP X pins σ Q) X.xe s
noncomputable def tOp(r:R2)(ta tb:TE):TE:=λσ H Q=>ta σ H λx H1=>tb σ H1 λy H2=>r x y H2 Q
noncomputable def tUn(r:V->Hp->VK->Prop)(ta:TE):TE:=λσ H Q=>ta σ H λx H1=>r x H1 Q
noncomputable def rI(C:Int->Int->Prop)(g:Int->Int->V):R2:=λx y H Q=>∃i j,x=.int i/\y=.int j/\C i j/\Q (g i j) H
noncomputable def rI0(g:Int->Int->V):R2:=λx y H Q=>∃i j,x=.int i/\y=.int j/\Q (g i j) H
noncomputable def rU(g:Int->V):V->Hp->VK->Prop:=λx H Q=>∃i,x=.int i/\Q (g i) H
section
variable{X:Cx}{a b c:Expr}{ta tb tc:TE}{pos:Pos}
theorem binT(ha:PE X a ta)(hb:PE X b tb){pins:List (Addr×Obj)}{s:Shared}{σ:St}{H:Hp}{R:V->V->Hp->Prop}(I:Inv X pins σ H s)(h:ta σ H λx H1=>tb σ H1 λy H2=>R x y H2){Q:Value->Shared->Prop}{f:Value->Value->Sem Value}(hf:∀v u s2 x y H2,Inv X pins σ H2 s2->RelV x v->RelV y u->R x y H2->wpAny (model X.prog X.w) X.A (f v u) Q X.xe s2):
  wpAny (model X.prog X.w) X.A (eval a X.env) (λv s₁=>wpAny (model X.prog X.w) X.A (eval b X.env) (λu s₂=>wpAny (model X.prog X.w) X.A (f v u) Q X.xe s₂) X.xe s₁) X.xe s:=by
 refine thn (ha pins s σ H _ I h) λv s1 ⟨x,H1,I1,r1,q1⟩=>?_
 refine thn (hb pins s1 σ H1 _ I1 q1) λu s2 ⟨y,H2,I2,r2,q2⟩=>?_
 exact hf v u s2 x y H2 I2 r1 r2 q2
theorem QnP{op:Operator}{r:R2}(ho:OpR X (binaryOp op) r)(ha:PE X a ta)(hb:PE X b tb):PE X (.BinOp a op b pos) (tOp r ta tb):=by
 intro pins s σ H Q I h
 exact wpAny_BinOp (binT ha hb I h λv u s2 x y H2 I2 rx ry q=>ho pins s2 σ H2 x y v u Q I2 rx ry q)
theorem QnQ{op:UnaryOp}{r:V->Hp->VK->Prop}(ho:UnR X (unaryOp op) r)(ha:PE X a ta):PE X (.UnaryOp op a pos) (tUn r ta):=by
 intro pins s σ H Q I h
 exact UnaryOp_ (thn (ha pins s σ H _ I h) λv s1 ⟨x,H1,I1,r1,q1⟩=>ho pins s1 σ H1 x v Q I1 r1 q1)
theorem opI{f:Value->Value->Sem Value}{C:Int->Int->Prop}{g:Int->Int->Int}(rule:∀(i j:Int) (t u:Tok) (s:Shared) (Q:Value->Shared->Prop) (E:Value->Shared->Prop),C i j->Q (.int (g i j) s.toks) {s with toks:=s.toks+1}->wpAny (model X.prog X.w) X.A (f (.int i t) (.int j u)) Q E s):
  OpR X f (rI C λi j=>.int (g i j)):=by
 intro pins s σ H x y v u Q I rx ry h
 obtain⟨i,j,rfl,rfl,hc,q⟩:=h
 obtain⟨t,rfl⟩:=rx
 obtain⟨t',rfl⟩:=ry
 exact rule i j t t' s _ _ hc ⟨.int (g i j),H,I.tok _,⟨_,rfl⟩,q⟩
theorem opI0{f:Value->Value->Sem Value}{g:Int->Int->Int}(rule:∀(i j:Int) (t u:Tok) (s:Shared) (Q:Value->Shared->Prop) (E:Value->Shared->Prop),Q (.int (g i j) s.toks) {s with toks:=s.toks+1}->wpAny (model X.prog X.w) X.A (f (.int i t) (.int j u)) Q E s):
  OpR X f (rI0 λi j=>.int (g i j)):=by
 intro pins s σ H x y v u Q I rx ry h
 obtain⟨i,j,rfl,rfl,q⟩:=h
 obtain⟨t,rfl⟩:=rx
 obtain⟨t',rfl⟩:=ry
 exact rule i j t t' s _ _ ⟨.int (g i j),H,I.tok _,⟨_,rfl⟩,q⟩
theorem opB0{f:Value->Value->Sem Value}{g:Int->Int->Bool}(rule:∀(i j:Int) (t u:Tok) (s:Shared) (Q:Value->Shared->Prop) (E:Value->Shared->Prop),Q (.bool (g i j)) s->wpAny (model X.prog X.w) X.A (f (.int i t) (.int j u)) Q E s):
  OpR X f (rI0 λi j=>.bl (g i j)):=by
 intro pins s σ H x y v u Q I rx ry h
 obtain⟨i,j,rfl,rfl,q⟩:=h
 obtain⟨t,rfl⟩:=rx
 obtain⟨t',rfl⟩:=ry
 exact rule i j t t' s _ _ ⟨.bl (g i j),H,I,rfl,q⟩
def CDiv(i j:Int):Prop:=0<j/\j<1073741824
def CMul(i j:Int):Prop:=(-(2^64)<i/\i<2^64)\/(-(2^64)<j/\j<2^64)
theorem CMul.ok{i j:Int}(h:CMul i j):IntMulOk i j:=by
 rcases h with⟨h1,h2⟩|⟨h1,h2⟩
 ·exact .of_left (intBits_le_64 h1 h2)
 ·exact .of_right (intBits_le_64 h1 h2)
theorem op_add:OpR X (binaryOp .Add) (rI0 λi j=>.int (i+j)):=opI0 λ_ _ _ _ _ _ _ q=>add_int q
theorem Qmr:OpR X (binaryOp .Sub) (rI0 λi j=>.int (i-j)):=opI0 λ_ _ _ _ _ _ _ q=>sub_int q
theorem op_mul:OpR X (binaryOp .Mult) (rI CMul λi j=>.int (i*j)):=opI λ_ _ _ _ _ _ _ hc q=>mul_int q hc.ok
theorem QkY:OpR X (binaryOp .FloorDiv) (rI CDiv λi j=>.int (i/j)):=opI λi j _ _ _ _ _ hc q=>by
 have h1:(0:Int)<j:=hc.1
 have h2:j<1073741824:=hc.2
 exact floordiv_int (by omega) (by rw[Int.fdiv_eq_ediv_of_nonneg i (by omega)];exact q) (.inl (PyProof.noPylong_small (by omega)))
theorem Qms:OpR X (binaryOp .Mod) (rI (λ_ j=>0<j) λi j=>.int (i%j)):=opI λi j _ _ _ _ _ hc q=>by
 have h1:(0:Int)<j:=hc
 exact mod_int' (by omega) (by rw[Int.fmod_eq_emod_of_nonneg i (by omega)];exact q)
theorem unI{f:Value->Sem Value}{g:Int->Int}(rule:∀(i:Int) (t:Tok) (s:Shared) (Q:Value->Shared->Prop) (E:Value->Shared->Prop),Q (.int (g i) s.toks) {s with toks:=s.toks+1}->wpAny (model X.prog X.w) X.A (f (.int i t)) Q E s):
  UnR X f (rU λi=>.int (g i)):=by
 intro pins s σ H x v Q I rx h
 obtain⟨i,rfl,q⟩:=h
 obtain⟨t,rfl⟩:=rx
 exact rule i t s _ _ ⟨.int (g i),H,I.tok _,⟨_,rfl⟩,q⟩
theorem Qmt:UnR X (unaryOp .USub) (rU λi=>.int (-i)):=unI λ_ _ _ _ _ q=>neg_int q
end
section
variable{X:Cx}{a b c:Expr}{ta tb tc:TE}{pos:Pos}
theorem Qkl{pins:List (Addr×Obj)}{σ:St}{H:Hp}{s:Shared}{Q:VK}{k k':Bool}(I:Inv X pins σ H s)(q:Q (.bl k) H)(e:k=k'):EP X pins σ Q (.bool k') s:=by
 subst e
 exact⟨.bl k,H,I,rfl,q⟩
theorem QkZ:OpR X (compareOp .Lt) (rI0 λi j=>.bl (decide (i<j))):=opB0 λ_ _ _ _ _ _ _ q=>lt_int q
theorem Qmu:OpR X (compareOp .LtE) (rI0 λi j=>.bl (decide (i<=j))):=opB0 λ_ _ _ _ _ _ _ q=>le_int q
theorem Qmv:OpR X (compareOp .Gt) (rI0 λi j=>.bl (decide (j<i))):=opB0 λ_ _ _ _ _ _ _ q=>gt_int q
theorem Qmw:OpR X (compareOp .GtE) (rI0 λi j=>.bl (decide (j<=i))):=opB0 λ_ _ _ _ _ _ _ q=>ge_int q
theorem Qmx:OpR X (compareOp .Is) (λx y H Q=>y=.non/\Q (.bl (decide (x=.non))) H):=by
 intro pins s σ H x y v u Q I rx ry h
 obtain⟨rfl,q⟩:=h
 cases ry
 refine is_none_gen (Qkl I q ?_)
 cases x <;> first
  | (cases rx;rfl)
  | (obtain⟨t,rfl⟩:=rx;rfl)
theorem Qk0:OpR X (compareOp .IsNot) (λx y H Q=>y=.non/\Q (.bl (!decide (x=.non))) H):=by
 intro pins s σ H x y v u Q I rx ry h
 obtain⟨rfl,q⟩:=h
 cases ry
 refine isnot_none_gen (Qkl I q ?_)
 cases x <;> first
  | (cases rx;rfl)
  | (obtain⟨t,rfl⟩:=rx;rfl)
theorem OpR.or{f:Value->Value->Sem Value}{r r':R2}(h:OpR X f r)(h':OpR X f r'):OpR X f (λx y H Q=>r x y H Q\/r' x y H Q):=by
 intro pins s σ H x y v u Q I rx ry q
 rcases q with q|q
 ·exact h pins s σ H x y v u Q I rx ry q
 ·exact h' pins s σ H x y v u Q I rx ry q
theorem Qaa(b:Expr){op:CmpOp}(h:op≠.In:=by decide)(h2:op≠.NotIn:=by decide):behindInMarks op b=false:=by
 have e1:(op == CmpOp.In)=false:=by cases op <;> first|rfl|exact absurd rfl h
 have e2:(op == CmpOp.NotIn)=false:=by cases op <;> first|rfl|exact absurd rfl h2
 cases b <;> simp[behindInMarks,e1,e2]
theorem Qk1{op:CmpOp}{r:R2}(ho:OpR X (compareOp op) r)(ha:PE X a ta)(hb:PE X b tb)(hm:behindInMarks op b=false):PE X (.Compare a [op] [b] pos) (tOp r ta tb):=by
 intro pins s σ H Q I h
 exact wpAny_Compare1 (binT ha hb I h λv u s2 x y H2 I2 rx ry q=>ho pins s2 σ H2 x y v u Q I2 rx ry q) hm
noncomputable def QnR(t:TE):TT:=λσ H Q=>t σ H λx H'=>∃k,x=.bl k/\Q k H'
theorem Qk2{op:CmpOp}{r:R2}(ho:OpR X (compareOp op) r)(ha:PE X a ta)(hb:PE X b tb)(hm:behindInMarks op b=false):PT X (.Compare a [op] [b] pos) (QnR (tOp r ta tb)):=by
 intro pins s σ H Q I h
 refine wpAny_isTrue_Compare1 (thn (ha pins s σ H _ I h) λv s1 ⟨x,H1,I1,r1,q1⟩=>thn (hb pins s1 σ H1 _ I1 q1) λu s2 ⟨y,H2,I2,r2,q2⟩ =>
  thn (ho pins s2 σ H2 x y v u _ I2 r1 r2 q2) λc s3 ⟨z,H3,I3,r3,k,e,q3⟩=>?_) hm
 subst e
 cases r3
 exact Ts ⟨H3,I3,q3⟩
noncomputable def Qkm(r r':R2)(ta tb tc:TE):TE:=λσ H Q=>ta σ H λx H1=>tb σ H1 λy H2=>r x y H2 λz H3=>∃k,z=.bl k /\
 (if k=true then tc σ H3 λw' H4=>r' y w' H4 Q else Q (.bl false) H3)
theorem Qjq{op op':CmpOp}{r r':R2}(ho:OpR X (compareOp op) r)(ho':OpR X (compareOp op') r')(ha:PE X a ta)(hb:PE X b tb)(hc:PE X c tc)(hm:lastMarks [op,op'] [b,c]=false:=by with_unfolding_all rfl):PE X (.Compare a [op,op'] [b,c] pos) (Qkm r r' ta tb tc):=by
 intro pins s σ H Q I h
 refine Compare_chain (thn (ha pins s σ H _ I h) λv s1 ⟨x,H1,I1,r1,q1⟩=>chain_link (thn (hb pins s1 σ H1 _ I1 q1) λu s2 ⟨y,H2,I2,r2,q2⟩ =>
  thn (ho pins s2 σ H2 x y v u _ I2 r1 r2 q2) λd s3 ⟨z,H3,I3,r3,k,e,q3⟩=>?_)) hm
 subst e
 cases r3
 refine Ts ?_
 cases k with
 |false=>exact ite_ff ⟨.bl false,H3,I3,rfl,q3⟩
 |true=>exact ite_tt (chain_last (thn (hc pins s3 σ H3 _ I3 q3) λw' s4 ⟨z',H4,I4,r4,q4⟩=>ho' pins s4 σ H4 y z' u w' Q I4 r2 r4 q4))
theorem QeF:(sizeLine:Nat)<2^63:=by rw[Rh];decide
theorem QhC{x:V}{us:List Value}(r:Vals [x] us):∃u,us=[u]/\RelV x u:=by
 cases r with
 |cons r1 r2=>cases r2;exact⟨_,rfl,r1⟩
theorem Qmy{x y:V}{us:List Value}(r:Vals [x,y] us):∃u w',us=[u,w']/\RelV x u/\RelV y w':=by
 cases r with
 |cons r1 r2 =>
  cases r2 with
  |cons r3 r4=>cases r4;exact⟨_,_,rfl,r1,r3⟩
theorem QhD(hc:X.calm=true):CallR X (.builtin "max") (λxs H Q=>∃i j,xs=[.int i,.int j]/\Q (.int (if j > i then j else i)) H):=by
 intro pins s σ H xs us Q I r h
 obtain⟨i,j,rfl,q⟩:=h
 obtain⟨u,w',rfl,⟨t,rfl⟩,⟨t',rfl⟩⟩:=Qmy r
 refine max_two_ints (I.ok.hd hc) λh' tk k=>⟨_,H,I.kept k,?_,q⟩
 by_cases hj:j > i
 ·rw[Uh hj,Uh hj];exact⟨_,rfl⟩
 ·rw[Um hj,Um hj];exact⟨_,rfl⟩
theorem QhE(hc:X.calm=true):CallR X (.builtin "min") (λxs H Q=>∃i j,xs=[.int i,.int j]/\Q (.int (if j<i then j else i)) H):=by
 intro pins s σ H xs us Q I r h
 obtain⟨i,j,rfl,q⟩:=h
 obtain⟨u,w',rfl,⟨t,rfl⟩,⟨t',rfl⟩⟩:=Qmy r
 refine min_two_ints (I.ok.hd hc) λh' tk k=>⟨_,H,I.kept k,?_,q⟩
 by_cases hj:j<i
 ·rw[Uh hj,Uh hj];exact⟨_,rfl⟩
 ·rw[Um hj,Um hj];exact⟨_,rfl⟩
theorem QhF:CallR X (.type "int") (λxs H Q=>(∃i,xs=[.int i]/\Q (.int i) H)\/∃k,xs=[.bl k]/\Q (.int (if k then 1 else 0)) H):=by
 intro pins s σ H xs us Q I r h
 rcases h with⟨i,rfl,q⟩|⟨k,rfl,q⟩
 ·obtain⟨u,rfl,t,rfl⟩:=QhC r
  exact call_int_int ⟨.int i,H,I,⟨_,rfl⟩,q⟩
 ·obtain⟨u,rfl,r1⟩:=QhC r
  cases r1
  exact call_int_bool ⟨.int (if k then 1 else 0),H,I.tok _,⟨_,rfl⟩,q⟩
end
end
section
structure ObjM(h:Heap)(x dx C:Addr)(mA:Str->Option Value):Prop where
 obj:h.get? x=some (instObj C dx)
 ns:h.Ns1 dx mA
 ne:dx≠x
theorem QhG{h:Heap}{dx:Addr}{mA:Str->Option Value}(n:h.Ns1 dx mA):∃od,h.get? dx=some od/\∀name,lookIn name od=some (mA name):=by
 obtain⟨o,es,ep,ho,hd,hk,_,hm⟩:=n
 refine⟨o,ho,λname=>?_⟩
 have e:=hm name
 unfold nsFind findBy at e
 rw[<-Array.find?_toList]at e
 unfold lookIn
 rw[hd]
 dsimp only
 split
 ·rename_i y q
  rw[q]at e
  exact Wr some e
 ·rename_i q
  rw[q]at e
  have a:es.toList.any (·.refKey)=false:=by
   rw[List.any_eq_false]
   intro y hy
   obtain⟨z,t,hkey⟩:=hk y (Array.mem_toList_iff.mp hy)
   simp[DictEntry.refKey,hkey]
  have a':¬es.toList.any (·.refKey)=true:=by rw[a];exact Uc
  rw[Um a']
  exact Wr some e
theorem ObjM.look{h:Heap}{x dx C:Addr}{mA:Str->Option Value}(I:ObjM h x dx C mA):∃od,PySem.W.InstAt h x (instObj C dx) C (some od)/\∀name,lookIn name od=some (mA name) :=
 let ⟨od,ho,hl⟩:=QhG I.ns
 ⟨od,⟨I.obj,rfl,rfl,ho⟩,hl⟩
section
variable{prog:Program}{w:World}{A:Around}{E:Value->Shared->Prop}{s:Shared}{K:Frag}{x dx C f:Addr}{mA:Str->Option Value}{name:Str}{v:Value}
theorem Qk3{expr:Bool}{Q:Value->Shared->Prop}(X:K.In s.heap)(I:ObjM s.heap x dx C mA)(hg:plainGet K C name=true)(hh:hasDictIn K C=true)(ha:findIn K (.ref C) name=some none)(hv:mA name=some v)(hv':handedIn v=true)(h:Q v {s with toks:=s.toks+1}):
  wpAny (model prog w) A (getAttr (.ref x) name expr) Q E s:=by
 obtain⟨od,J,hl⟩:=I.look
 exact get_value X J (plainGet_of hg).1 (findObj_own hh ha rfl (by rw[hl,hv])) hv' h
theorem Qk4{ns:List Str}{Q:Unit->Shared->Prop}(X:K.In s.heap)(I:ObjM s.heap x dx C mA)(hs:findIn K (.ref C) "__setattr__" = some (some (.builtin "object.__setattr__")))(hp:plainOver K C=true)(ht:takerIn K C name=some none)(hh:hasDictIn K C=true)(hw:PySem.Within mA ns)(hsz:ns.length<=sizeLine)(h:∀h',ObjM h' x dx C (λy=>if y=name then some v else mA y)->Heap.SameBut dx s.heap h'->Q () {s with heap:=h',toks:=s.toks+2}):
  wpAny (model prog w) A (setAttr (.ref x) name v) Q E s:=by
 obtain⟨od,J,hl⟩:=I.look
 refine set_plain X J hs (osa_open (s:={s with toks:=s.toks+1}) (r:=none) X J hp ht λb=>?_)
 obtain⟨cd,hc,hd'⟩:=any_some hh
 have hx:s.heap.get? x=some ⟨.ref C,some dx,.plain,#[]⟩:=I.obj
 refine Ua (Uj (Ua (Ua (Wp hx (Ua (Looks.here (s:={s with toks:=s.toks+1}) (looks_clsIn X hc) ?_))))))
 rw[hd']
 refine Uj (a:=some dx) (Ua (Uj (Ua ?_)))
 refine wpAny_nsSet1 (s:={s with toks:=s.toks+1}) I.ns λh' hn2 hs2=>?_
 obtain⟨oD,esD,epD,hoD,hdD,hcD⟩:=hn2.count (PySem.Within.cons name v hw)
 refine Ua (wpAny_lookBehind hoD (by rw[hdD];exact pastItsLine_dict (Uw hcD (by rw[UQ];omega))) ?_)
 exact Uj (h _ ⟨(hs2.2 _ (Ne.symm I.ne)).trans I.obj,hn2,I.ne⟩ hs2)
theorem Qjr{R:Result->Shared->Prop}{vs:List Value}{kw:List (Str×Value)}(X:K.In s.heap)(hm:makesIn K C=true)(hi:findIn K (.ref C) "__init__" = some (some (.ref f)))(hf:typeIn K (.ref f)=some (.type "function"))(h:codeAny (model prog w) (A.under (.builtin "type.__call__" ⟨.ref C::vs,kw⟩)) (.call (.ref f) ⟨.ref (s.heap.objs.size+1)::vs,kw⟩) (InitBack (s.heap.objs.size+1) R)
   {s with heap:=(s.heap.push emptyDict).push (instObj C s.heap.objs.size)}):
  codeAny (model prog w) A (.call (.ref C) ⟨vs,kw⟩) R s:=by
 obtain⟨hh,g,d,t,os⟩:=s
 exact make_core (makes_of X hm) (Re X hi) (λself=>bind_fn X self hf) (.inl rfl) h
end
noncomputable def putF(f:Str)(v:V):List (Str×V)->List (Str×V)
 |[]=>[(f,v)]
 | (g,x)::r=>if g=f then (g,v)::r else (g,x)::putF f v r
theorem Qcw(f g:Str)(v:V):∀fs:List (Str×V),(putF f v fs).lookup g=if g=f then some v else fs.lookup g
 |[]=>by
  show List.lookup g [(f,v)]=_
  by_cases h:g=f
  ·have hb:(g == f)=true:=U0.mpr h
   simp only[List.lookup,hb,Uh h]
  ·have hb:(g == f)=false:=Tg.mpr h
   simp only[List.lookup,hb,Um h]
 | (k,x)::r=>by
  have ih:=Qcw f g v r
  rw[show putF f v ((k,x)::r)=(if k=f then (k,v)::r else (k,x)::putF f v r) from rfl]
  by_cases hk:k=f
  ·rw[Uh hk]
   by_cases h:g=k
   ·have hb:(g == k)=true:=U0.mpr h
    simp only[List.lookup,hb,Uh (h.trans hk)]
   ·have hb:(g == k)=false:=Tg.mpr h
    simp only[List.lookup,hb,Um (λe:g=f=>h (e.trans hk.symm))]
  ·rw[Um hk]
   by_cases h:g=k
   ·have hb:(g == k)=true:=U0.mpr h
    simp only[List.lookup,hb,Um (λe:g=f=>hk (h.symm.trans e))]
   ·have hb:(g == k)=false:=Tg.mpr h
    simp only[List.lookup,hb]
    exact ih
theorem Qcx(f:Str)(v:V):∀fs:List (Str×V),f∈(putF f v fs).map (·.1)/\∀g,g∈fs.map (·.1)->g∈(putF f v fs).map (·.1)
 |[]=>⟨by simp[putF],λg h=>by simp at h⟩
 | (k,x)::r=>by
  obtain⟨i1,i2⟩:=Qcx f v r
  rw[show putF f v ((k,x)::r)=(if k=f then (k,v)::r else (k,x)::putF f v r) from rfl]
  by_cases hk:k=f
  ·rw[Uh hk]
   subst hk
   exact⟨by simp,λg h=>by simpa using h⟩
  ·rw[Um hk]
   refine⟨?_,λg h=>?_⟩
   ·rw[UY]
    exact Uz _ i1
   ·rw[UY]at h ⊢
    rcases Ui.mp h with e|e
    ·exact Ui.mpr (.inl e)
    ·exact Uz _ (i2 g e)
theorem Qcy(f:Str)(v:V):∀fs:List (Str×V),(putF f v fs).length<=fs.length+1
 |[]=>by simp[putF]
 | (k,x)::r=>by
  have ih:=Qcy f v r
  rw[show putF f v ((k,x)::r)=(if k=f then (k,v)::r else (k,x)::putF f v r) from rfl]
  by_cases hk:k=f
  ·rw[Uh hk,UQ,UQ];omega
  ·rw[Um hk,UQ,UQ];omega
theorem RelO.some_of{v:V}{o:Option Value}(r:RelO (some v) o):∃u,o=some u/\RelV v u:=by
 cases o with
 |none=>exact(show False from r).elim
 |some u=>exact⟨u,rfl,r⟩
theorem QhH{v:V}{u:Value}(r:RelV v u):handedIn u=true:=by
 cases v with
 |non=>cases (show u=Value.none from r);rfl
 |bl b=>cases (show u=Value.bool b from r);rfl
 |int i=>obtain⟨t,e⟩:=(show ∃t,u=Value.int i t from r);cases e;rfl
 |str x=>obtain⟨t,e⟩:=(show ∃t,u=Value.str x t from r);cases e;rfl
 |byt b=>obtain⟨t,e⟩:=(show ∃t,u=Value.bytes b t from r);cases e;rfl
 |flt b=>obtain⟨t,e⟩:=(show ∃t,u=Value.float b t from r);cases e;rfl
 |ref a=>cases (show u=Value.ref a from r);rfl
 |ty n=>cases (show u=Value.type n from r);rfl
section
variable{P:Program}{w:World}{H H':Hp}{h h':Heap}{a C dx:Addr}{fs fs':List (Str×V)}
theorem Qfq(hok:HOk P w H h)(e:H a=some (.ins C dx fs)):∃mA,ObjM h a dx C mA/\(∀f,RelO (fs.lookup f) (mA f))/\PySem.Within mA (fs.map (·.1))/\fs.length<=1000/\H dx=some (.own a):=by
 obtain⟨d,z,ne,ob,mA,n,r,q⟩:=(show ObjOk P w H h a (.ins C dx fs) from hok a _ e)
 exact⟨mA,⟨ob,n,ne⟩,r,q,z,d⟩
end
structure Cls(K:Frag)(C:Addr):Prop where
 pg:plainGet K C Str.empty=true
 hd:hasDictIn K C=true
 po:plainOver K C=true
 sa:findIn K (.ref C) "__setattr__" = some (some (.builtin "object.__setattr__"))
theorem Cls.get{K:Frag}{C:Addr}(c:Cls K C)(f:Str):plainGet K C f=true:=c.pg
def NoAttr(K:Frag)(C:Addr)(f:Str):Prop:=findIn K (.ref C) f=some none
theorem NoAttr.taker{K:Frag}{C:Addr}{f:Str}(n:NoAttr K C f):takerIn K C f=some none:=by
 unfold takerIn
 rw[show findIn K (.ref C) f=some none from n]
 rfl
section
variable{X:Cx}{pins:List (Addr×Obj)}{σ:St}{H:Hp}{s:Shared}{a C dx:Addr}{fs:List (Str×V)}{f:Str}{v:V}{A:Around}{E:Value->Shared->Prop}
theorem QgP{b:Bool}{Q:Value->Shared->Prop}(I:Inv X pins σ H s)(e:H a=some (.ins C dx fs))(c:Cls X.K C)(n:NoAttr X.K C f)(l:fs.lookup f=some v)(h:∀u s',Inv X pins σ H s'->RelV v u->Q u s'):wpAny (model X.prog X.w) A (getAttr (.ref a) f b) Q E s:=by
 obtain⟨mA,O,r,_,_,_⟩:=Qfq I.hok e
 obtain⟨u,hu,ru⟩:=RelO.some_of (v:=v) (o:=mA f) (by rw[<-l];exact r f)
 exact Qk3 I.kIn O (c.get f) c.hd n hu (QhH ru) (h u _ (I.tok _) ru)
theorem QgQ{y:V}{u:Value}{Q:Unit->Shared->Prop}(I:Inv X pins σ H s)(e:H a=some (.ins C dx fs))(c:Cls X.K C)(n:NoAttr X.K C f)(hl:fs.length<1000)(ry:RelV y u)(h:∀s',Inv X pins σ (upd H a (.ins C dx (putF f y fs))) s'->Q () s'):wpAny (model X.prog X.w) A (setAttr (.ref a) f u) Q E s:=by
 obtain⟨mA,O,r,wi,_,ho⟩:=Qfq I.hok e
 have hz:(fs.map (·.1)).length<=sizeLine:=by rw[Ud,Rh];omega
 refine Qk4 I.kIn O c.sa c.po n.taker c.hd wi hz λh' O' sb=>h _ ?_
 have hd:∃o,h'.get? dx=some o:=let ⟨o,_,_,e',_⟩:=O'.ns;⟨o,e'⟩
 refine I.write (x:=a) (e:=dx) (by rw[e];exact True.intro) (.inr ho) (λb q hb z=>(sb.2 b hb).trans z) hd ?_
 refine⟨by rw[QP O.ne];exact ho,?_,O.ne,O'.obj,_,O'.ns,λg=>?_,λg hg=>?_⟩
 ·have:=Qcy f y fs;omega
 ·show RelO ((putF f y fs).lookup g) (if g=f then some u else mA g)
  rw[Qcw]
  by_cases q:g=f
  ·rw[Uh q,Uh q];exact ry
  ·rw[Um q,Um q];exact r g
 ·by_cases q:g=f
  ·rw[q];exact(Qcx f y fs).1
  ·refine(Qcx f y fs).2 g (wi g λz=>hg ?_)
   show(if g=f then some u else mA g)=none
   rw[Um q];exact z
theorem Inv.made(I:Inv X pins σ H s):Inv X pins σ (upd (upd H s.heap.objs.size (.own (s.heap.objs.size+1))) (s.heap.objs.size+1) (.ins C s.heap.objs.size []))
  {s with heap:=(s.heap.push emptyDict).push (instObj C s.heap.objs.size)}:=by
 have e1:(s.heap.push emptyDict).get? s.heap.objs.size=some emptyDict:=Ur s.heap rfl
 have e2:((s.heap.push emptyDict).push (instObj C s.heap.objs.size)).get? (s.heap.objs.size+1)=some (instObj C s.heap.objs.size):=by
  have:=Ur (s.heap.push emptyDict) (o:=instObj C s.heap.objs.size) rfl
  rwa[U8]at this
 have e3:(s.heap.push emptyDict).Ns s.heap.objs.size (λ_=>none):=⟨emptyDict,#[],_,e1,rfl,(λe he=>absurd he (by simp)),λ_=>rfl⟩
 have I1:=I.laid (a:=s.heap.objs.size) (o:=.own (s.heap.objs.size+1)) (h':=s.heap.push emptyDict) (t':=s.toks) (λb u q=>Ub _ q) (Ul _) ⟨_,e1⟩
 refine I1.laid (a:=s.heap.objs.size+1) (o:=.ins C s.heap.objs.size []) (t':=s.toks) (λb u q=>Ub _ q) (Nat.le_of_eq (U8 _ _)) ?_
 have ne:s.heap.objs.size≠s.heap.objs.size+1:=UI (U4 _)
 refine⟨by rw[QP ne,QN],Bq _,ne,e2,λ_=>none,(Heap.Ns1.of_empty e3).at λo q=>Ub _ q,λ_=>True.intro,λy hy=>absurd rfl hy⟩
theorem Qk5{prog:Program}{w:World}{env:Env}{e:Expr}{f:Str}{pos:Pos}{s:Shared}{Q:Value->Shared->Prop}(hb:attributeBase e f env (eval e env)=eval e env)(h:wpAny (model prog w) A (eval e env) (λo s₁=>wpAny (model prog w) A (getAttr o f true) Q E s₁) E s):wpAny (model prog w) A (eval (.Attribute e f pos) env) Q E s :=
 Attribute_any_ h (by rw[arm_eval_Attribute,hb])
end
noncomputable def tFld(K:Frag)(ta:TE)(f:Str):TE:=λσ H Q=>ta σ H λx H1=>∃a C dx fs v,x=.ref a/\H1 a=some (.ins C dx fs)/\Cls K C/\NoAttr K C f/\fs.lookup f=some v/\Q v H1
noncomputable def sFld(K:Frag)(ta tv:TE)(f:Str):TS:=λD σ H=>tv σ H λy H1=>ta σ H1 λx H2=>∃a C dx fs,x=.ref a/\H2 a=some (.ins C dx fs)/\Cls K C/\NoAttr K C f/\fs.length<1000 /\
 D.nx σ (upd H2 a (.ins C dx (putF f y fs)))
section
variable{X:Cx}{o e value:Expr}{f:Str}{pos pos' tpos:Pos}{ta tv:TE}
theorem Qmz(he:PE X e ta)(hb:attributeBase e f X.env (eval e X.env)=eval e X.env):PE X (.Attribute e f pos) (tFld X.K ta f):=by
 intro pins s σ H Q I h
 refine Qk5 hb (thn (he pins s σ H _ I h) λu s1 ⟨x,H1,I1,rx,a,C,dx,fs,v,ex,ea,c,n,l,q⟩=>?_)
 subst ex
 obtain rfl:u=Value.ref a:=rx
 exact QgP I1 ea c n l λu' s2 I2 ru=>⟨v,H1,I2,ru,q⟩
theorem QmA(ha:PE X o ta)(hv:PE X value tv)(hs:swapsWith value (some (.Attribute o f pos')) pos.line X.env=pure false):PS X (.Assign [.Attribute o f pos'] value pos) (sFld X.K ta tv f):=by
 intro pins s σ H D I h
 refine plainObj_wpAny_Assign_Attribute (thn (hv pins s σ H _ I h) λu s1 ⟨y,H1,I1,ry,q⟩=>thn (ha pins s1 σ H1 _ I1 q) λov s2 ⟨x,H2,I2,rx,a,C,dx,fs,ex,ea,c,n,l,q2⟩=>?_) hs
 subst ex
 obtain rfl:ov=Value.ref a:=rx
 exact QgQ I2 ea c n l ry λs3 I3=>⟨σ,_,I3,q2⟩
end
section
variable{X:Cx}{pins:List (Addr×Obj)}{σ:St}{H:Hp}{s:Shared}{A:Around}{E:Value->Shared->Prop}{Q:Value->Shared->Prop}{c:Value}{b:Bool}
inductive TyOf(K:Frag)(H:Hp):V->Value->Prop where
 |non:TyOf K H .non (.type "NoneType")
 |bl (x:Bool):TyOf K H (.bl x) (.type "bool")
 |int (i:Int):TyOf K H (.int i) (.type "int")
 |str (x:Str):TyOf K H (.str x) (.type "str")
 |flt (x:UInt64):TyOf K H (.flt x) (.type "float")
 |lst {a:Addr} {xs:List V} (e:H a=some (.lst xs)):TyOf K H (.ref a) (.type "list")
 |frz {a:Addr} {o:Obj} {xs:List V} (e:H a=some (.frz o (.lst xs))):TyOf K H (.ref a) (.type "list")
 |tup {a:Addr} {xs:List V} (e:H a=some (.tup xs)):TyOf K H (.ref a) (.type "tuple")
 |dK {a:Addr} {kvs:List (Key×V)} (e:H a=some (.dK kvs)):TyOf K H (.ref a) (.type "dict")
 |dT {a:Addr} {kvs:List (List Key×V)} (e:H a=some (.dT kvs)):TyOf K H (.ref a) (.type "dict")
 |ins {a C dx:Addr} {fs:List (Str×V)} (e:H a=some (.ins C dx fs)) (cl:Cls K C) (ha:findIn K (.ref C) "__class__" = some (some (.builtin "object.__class__")))
   (hn:specialIn K (.builtin "object.__class__") "__get__" = some (some (.builtin "getset_descriptor.__get__"))) (htk:takesIn K (.builtin "object.__class__")=some true)
   (hm:mroIn K C (.type "object")=some true):TyOf K H (.ref a) (.ref C)
theorem Y1{x:V}{u t:Value}(I:Inv X pins σ H s)(rx:RelV x u)(ty:TyOf X.K H x t)(e:kitOne X.K t c=some b)(h:∀tk,Q (.bool b) {s with toks:=tk}):
  wpAny (model X.prog X.w) A (call (.builtin "isinstance") [u,c]) Q E s:=by
 cases ty with
 |non=>cases (show u=Value.none from rx);exact UN kitx_none I.kIn True.intro e (λz=>nomatch z) h
 |bl y=>cases (show u=Value.bool y from rx);exact UN kitx_bool I.kIn True.intro e (λz=>nomatch z) h
 |int i=>obtain⟨t,q⟩:=(show ∃t,u=Value.int i t from rx);cases q;exact UN kitx_int I.kIn True.intro e (λz=>nomatch z) h
 |str y=>obtain⟨t,q⟩:=(show ∃t,u=Value.str y t from rx);cases q;exact UN kitx_str I.kIn True.intro e (λz=>nomatch z) h
 |flt y=>obtain⟨t,q⟩:=(show ∃t,u=Value.float y t from rx);cases q;exact UN kitx_float I.kIn True.intro e (λz=>nomatch z) h
 |@lst a xs ea =>
  cases (show u=Value.ref a from rx)
  obtain⟨_,_,n,_,h1⟩:=(show ObjOk X.prog X.w H s.heap a (.lst xs) from I.hok a _ ea)
  exact UN TF I.kIn ⟨_,h1,rfl⟩ e (λz=>nomatch z) h
 |@frz a ob xs ea =>
  cases (show u=Value.ref a from rx)
  obtain⟨_,_,_,n,_,h1⟩:=(show ObjOk X.prog X.w H s.heap a (.frz ob (.lst xs)) from I.hok a _ ea)
  exact UN TF I.kIn ⟨_,h1,rfl⟩ e (λz=>nomatch z) h
 |@tup a xs ea =>
  cases (show u=Value.ref a from rx)
  obtain⟨_,_,_,p⟩:=(show ObjOk X.prog X.w H s.heap a (.tup xs) from I.hok a _ ea)
  obtain⟨o,h1,h2,_⟩:=p
  exact UN RD I.kIn ⟨o,h1,h2⟩ e (λz=>nomatch z) h
 |@dK a kvs ea =>
  cases (show u=Value.ref a from rx)
  obtain⟨_,_,vs,_,p⟩:=(show ObjOk X.prog X.w H s.heap a (.dK kvs) from I.hok a _ ea)
  obtain⟨o,es,ep,h1,h2,_⟩:=p
  exact UN RK I.kIn ⟨o,h1,h2.1⟩ e (λz=>nomatch z) h
 |@dT a kvs ea =>
  cases (show u=Value.ref a from rx)
  obtain⟨_,_,xs,_,o,es,ep,h1,h2,_⟩:=(show ObjOk X.prog X.w H s.heap a (.dT kvs) from I.hok a _ ea)
  exact UN RK I.kIn ⟨o,h1,h2.1⟩ e (λz=>nomatch z) h
 |@ins a C dx fs ea cl ha hn htk hm =>
  cases (show u=Value.ref a from rx)
  obtain⟨mA,O,_⟩:=Qfq I.hok ea
  obtain⟨od,J,_⟩:=O.look
  exact UN (kitx_own (cl.get _) cl.hd ha hn htk hm) I.kIn J e (λz=>nomatch z) h
end
end
section
structure Room(k:Nat)(A:Around):Prop where
 hd:A.handled=none
 dp:A.depth+3*k+5<recursionLimit
 un:A.units+16*k+200<cLine
theorem Room.mono{j k:Nat}{A:Around}(r:Room k A)(h:j<=k):Room j A:=⟨r.hd,by have:=r.dp;omega,by have:=r.un;omega⟩
theorem Room.deeper{k:Nat}{A:Around}(r:Room (k+1) A)(env:Env):Room k (A.deeper env) :=
 ⟨r.hd,by have:=r.dp;show A.depth+1+3*k+5<_;omega,by have:=r.un;show A.units+3+16*k+200<_;omega⟩
theorem Room.in1{k:Nat}{A:Around}(r:Room (k+1) A):Room k A.in1 :=
 ⟨r.hd,by have:=r.dp;show A.depth+3*k+5<_;omega,by have:=r.un;show A.units+1+16*k+200<_;omega⟩
theorem QgR{A:Around}{C:Addr}{us:List Value}{kw:List (Str×Value)}:(A.under (.builtin "type.__call__" ⟨.ref C::us,kw⟩)).depth=A.depth+1:=by
 first|rfl|simp[Around.under,Code.weight,Code.isCreation,Code.isGuard,Code.isCaller,Code.frames,Code.isFrame,guardIds]
theorem QgS{A:Around}{C:Addr}{us:List Value}{kw:List (Str×Value)}:(A.under (.builtin "type.__call__" ⟨.ref C::us,kw⟩)).units=A.units+1:=by
 first|rfl|simp[Around.under,Code.cUnits,Code.frames,Code.isFrame]
theorem Room.make{k:Nat}{A:Around}(r:Room (k+1) A)(C:Addr)(us:List Value)(kw:List (Str×Value)):Room k (A.under (.builtin "type.__call__" ⟨.ref C::us,kw⟩)) :=
 ⟨r.hd,by have:=r.dp;rw[QgR];omega,by have:=r.un;rw[QgS];omega⟩
theorem Room.depth{k:Nat}{A:Around}(r:Room k A):A.depth<recursionLimit:=by have:=r.dp;omega
theorem Room.units{k:Nat}{A:Around}(r:Room k A):A.units+64<cLine:=by have:=r.un;omega
noncomputable def tNil:TA:=λ_ H Q=>Q [] H
noncomputable def QnS(ta:TE)(tr:TA):TA:=λσ H Q=>ta σ H λx H1=>tr σ H1 λxs H2=>Q (x::xs) H2
section
variable{X:Cx}{e:Expr}{es:List Expr}{te:TE}{t:TA}{pos:Pos}
theorem Qdp:PA X [] tNil:=λ_ _ _ _ H Q I h=>Calls.spliced_nil ⟨[],H,I,.nil,h⟩
theorem Y2(ha:PE X e te)(hr:PA X es t)(hs:starEach (e::es) X.env=(false,eval e X.env)::starEach es X.env:=by rfl):PA X (e::es) (QnS te t):=by
 intro pos pins s σ H Q I h
 rw[hs]
 show wpAny _ _ (spliced ((false,eval e X.env)::backTo pos (starEach es X.env))) _ _ s
 refine Calls.spliced_cons (thn (ha pins s σ H _ I h) λu s1 ⟨x,H1,I1,r1,q1⟩=>?_)
 exact thn (hr pos pins s1 σ H1 _ I1 q1) λus s2 ⟨xs,H2,I2,r2,q2⟩=>⟨x::xs,H2,I2,.cons r1 r2,q2⟩
noncomputable def tTup(t:TA):TE:=λσ H Q=>t σ H λxs H1=>xs.length<=sizeLine/\∀p,H1 p=none->Q (.ref p) (upd H1 p (.tup xs))
noncomputable def tLst(t:TA):TE:=λσ H Q=>t σ H λxs H1=>xs.length<=sizeLine/\∀p,H1 p=none->Q (.ref p) (upd H1 p (.lst xs))
theorem Qkn{x1}(h:PA X es t):PE X (.Tuple es x1 pos) (tTup t):=by
 intro pins s σ H Q I hq
 refine wpAny_Tuple_spliced (thn (h pos pins s σ H _ I hq) λus s1 ⟨xs,H1,I1,r,z,q⟩=>⟨by rw[<-r.length];exact z,?_⟩)
 have hf:H1 s1.heap.objs.size=none:=I1.hok.fresh (Ul _)
 refine⟨.ref s1.heap.objs.size,upd H1 s1.heap.objs.size (.tup xs),I1.laid (t':=s1.toks) (λb u e=>Ub _ e) (Ul _) ?_,rfl,q _ hf⟩
 exact⟨z,us,r,⟨_,Ur _ rfl,rfl,_,rfl⟩⟩
theorem QmB(h:PA X es t):PE X (.List es pos) (tLst t):=by
 intro pins s σ H Q I hq
 refine wpAny_List_spliced (thn (h pos pins s σ H _ I hq) λus s1 ⟨xs,H1,I1,r,z,q⟩=>⟨by rw[<-r.length];exact z,?_⟩)
 have hf:H1 s1.heap.objs.size=none:=I1.hok.fresh (Ul _)
 refine⟨.ref s1.heap.objs.size,upd H1 s1.heap.objs.size (.lst xs),I1.laid (t':=s1.toks) (λb u e=>Ub _ e) (Ul _) ?_,rfl,q _ hf⟩
 exact⟨z,us,0,r,Ur _ rfl⟩
end
noncomputable abbrev Sp:=List V->Hp->VK->XK->Prop
noncomputable abbrev CXT:=List Env->Hp->Shared->XK->Value->Shared->Prop
structure Env0(P:Program)(w:World)(K:Frag)(mg:Str->Option Value)(base:Heap)(A:Around)(outer:List Env)(s:Shared)(H:Hp):Prop where
 frames:A.frames=some outer
 mod:Mod K mg base
 bs:∀b o,base.get? b=some o->s.heap.get? b=some o/\H b=none
 bsz:base.objs.size<=s.heap.objs.size
 funs:s.heap.FunFrames base outer
 frf:∀b∈frs outer,H b=none
 hok:HOk P w H s.heap
 bare:AllBare s.gens
noncomputable def CE(outer:List Env)(P:Program)(w:World)(H:Hp)(s:Shared)(Q:VK)(u:Value)(s':Shared):Prop :=
 ∃v H',s'.os=s.os/\AllBare s'.gens/\Un (frs outer) [] H H' s.heap s'.heap/\HOk P w H' s'.heap/\RelV v u/\Q v H'
noncomputable def CR(CX:CXT)(outer:List Env)(P:Program)(w:World)(H:Hp)(s:Shared)(Q:VK)(E:XK)(r:Result)(s':Shared):Prop :=
 match r with
 |.ok (.ret u)=>CE outer P w H s Q u s'
 |.ok _=>False
 |.error e=>CX outer H s E e s'
structure FnOk(P:Program)(w:World)(K:Frag)(mg:Str->Option Value)(base:Heap)(CX:CXT)(k:Nat)(f:Addr)(fd:FuncData)(ps:List Str)(sp:Sp):Prop where
 len:∀vs H Q E,sp vs H Q E->vs.length=ps.length
 run:∀(A:Around)(outer:List Env)(s:Shared)(H:Hp)(args:Args)(us:List Value)(vs:List V)(Q:VK)(E:XK),Room k A->Env0 P w K mg base A outer s H->BindsTo s fd args (ps.zip us)->Vals vs us->sp vs H Q E ->
  codeAny (model P w) A (.call (.ref f) args) (CR CX outer P w H s Q E) s
theorem FnOk.mono{P:Program}{w:World}{K:Frag}{mg:Str->Option Value}{base:Heap}{CX:CXT}{j k:Nat}{f:Addr}{fd:FuncData}{ps:List Str}{sp:Sp}(F:FnOk P w K mg base CX j f fd ps sp)(h:j<=k):
  FnOk P w K mg base CX k f fd ps sp:=⟨F.len,λA outer s H args us vs Q E hr=>F.run A outer s H args us vs Q E (hr.mono h)⟩
theorem FnOk.imp{P:Program}{w:World}{K:Frag}{mg:Str->Option Value}{base:Heap}{CX:CXT}{k:Nat}{f:Addr}{fd:FuncData}{ps:List Str}{sp sp':Sp}(F:FnOk P w K mg base CX k f fd ps sp)(h:∀vs H Q E,sp' vs H Q E->sp vs H Q E):FnOk P w K mg base CX k f fd ps sp' :=
 ⟨λvs H Q E q=>F.len vs H Q E (h _ _ _ _ q),λA outer s H args us vs Q E hr he hb hv hs=>F.run A outer s H args us vs Q E hr he hb hv (h _ _ _ _ hs)⟩
theorem Env0.make{P:Program}{w:World}{K:Frag}{mg:Str->Option Value}{base:Heap}{A:Around}{outer:List Env}{s:Shared}{H:Hp}(e:Env0 P w K mg base A outer s H)(C:Addr)(us:List Value)(kw:List (Str×Value)):
  Env0 P w K mg base (A.under (.builtin "type.__call__" ⟨.ref C::us,kw⟩)) outer s H:=⟨by first|exact e.frames|(simpa[Around.under,Code.envs,Code.isFrame,pushEnvs]using e.frames),e.mod,e.bs,e.bsz,e.funs,e.frf,e.hok,e.bare⟩
theorem Env0.in1{P:Program}{w:World}{K:Frag}{mg:Str->Option Value}{base:Heap}{A:Around}{outer:List Env}{s:Shared}{H:Hp}(e:Env0 P w K mg base A outer s H):
  Env0 P w K mg base A.in1 outer s H:=⟨e.frames,e.mod,e.bs,e.bsz,e.funs,e.frf,e.hok,e.bare⟩
section
variable{X:Cx}{pins:List (Addr×Obj)}{σ:St}{H:Hp}{s s':Shared}
theorem Inv.env0(I:Inv X pins σ H s):Env0 X.prog X.w X.K X.mg X.base X.A X.stack s H :=
 ⟨I.ok.frames,I.ok.mod,I.bs,Uw I.ok.bsz I.sz,I.stack,I.stkFree,I.hok,I.bare⟩
theorem Inv.after{Q:VK}{u:Value}(I:Inv X pins σ H s)(h:CE X.stack X.prog X.w H s Q u s'):EP X pins σ Q u s':=by
 obtain⟨v,H',os,bare,un,hok,r,q⟩:=h
 obtain⟨hh,g,d,t,os'⟩:=s'
 obtain rfl:os'=s.os:=os
 exact⟨v,H',I.call (h':=hh) (g':=g) (d':=d) (t':=t) (ch:=[]) un hok bare (λb z=>absurd z (by simp)),r,q⟩
end
noncomputable def Binds(K:Frag)(fd:FuncData)(ps:List Str)(ds:List Value):Prop :=
 ∀(s:Shared)(us:List Value),K.In s.heap->(us++ds).length=ps.length->BindsTo s fd ⟨us,[]⟩ (ps.zip (us++ds))
theorem Binds.all{K:Frag}{fd:FuncData}{ps:List Str}(h:∀us:List Value,us.length=ps.length->bindArgs fd ⟨us,[]⟩=pure (ps.zip us)):Binds K fd ps []:=λs us _ hl=>by
 rw[UW]at hl ⊢
 exact .of_eq (h us hl)
section
variable{X:Cx}{CX:CXT}{k:Nat}{f C:Addr}{fd:FuncData}{ps:List Str}{sp:Sp}{dvs:List V}{ds:List Value}{E:XK}{x m:Str}{p pos apos:Pos}{e o:Expr}{es:List Expr}{ta:TE}{t:TA}
structure Mk(K:Frag)(C f:Addr):Prop where
 makes:makesIn K C=true
 init:findIn K (.ref C) "__init__" = some (some (.ref f))
 fn:isFn K (.ref f)=true
 kp:keepIn K (.ref C)=true
end
section
variable{X:Cx}{CX:CXT}{k:Nat}{f C:Addr}{fd:FuncData}{ps ks:List Str}{sp:Sp}{E:XK}{x m:Str}{p pos apos kpos:Pos}{e o:Expr}{es:List Expr}{kws:List Keyword}{te ta:TE}{t tk:TA}{nm:Option Str}
variable{g:List Value->List Value->List Value}{gV:List V->List V->List V}
end
structure FnScope(N P:List Str)(sc:Scope):Prop where
 kind:sc.kind=.function
 co:sc.isCoroutine=false
 gen:sc.isGenerator=false
 nd:N.Nodup
 pre:N.take P.length=P
 par:∀x∈P,sc.names.lookup x=some .local\/sc.names.lookup x=some .cell
 nofree:∀y∈sc.names,y.2≠.free
theorem QeG{kindOf:Str->Option NameKind}{x:Str}:∀{binds:List (Str×Value)}{m:Str->Option Value},(∀v,(x,v)∉binds)->bindL kindOf binds m x=m x
 |[],_,_=>rfl
 | (n,v)::r,m,h=>by
  unfold bindL
  rw[QeG λw hw=>h w (Uz _ hw)]
  split
  ·have:x≠n:=by rintro rfl;exact h v UH
   simp[this]
  ·rfl
theorem QeH{kindOf:Str->Option NameKind}{x:Str}:∀{binds:List (Str×Value)}{m:Str->Option Value},(∀v,(x,v)∉binds)->bindC kindOf binds m x=m x
 |[],_,_=>rfl
 | (n,v)::r,m,h=>by
  unfold bindC
  rw[QeH λw hw=>h w (Uz _ hw)]
  split
  ·rfl
  ·have:x≠n:=by rintro rfl;exact h v UH
   simp[this]
theorem QeI{kindOf:Str->Option NameKind}{x:Str}{v:Value}:∀{P:List Str}{vs:List Value}{i:Nat}{m:Str->Option Value},P.Nodup->P[i]?=some x->vs[i]?=some v->kindOf x=some .local ->
  bindL kindOf (P.zip vs) m x=some v
 |[],_,_,_,_,h,_,_=>by simp at h
 |_::_,[],_,_,_,_,h,_=>by simp at h
 |p::P,w::vs,0,m,nd,h1,h2,hk=>by
  simp at h1 h2;subst h1;subst h2
  show bindL kindOf ((p,w)::P.zip vs) m p=_
  unfold bindL
  rw[QeG λv hv=>(Rk.mp nd).1 (Wa hv).1,Uh hk]
  simp
 |p::P,w::vs,i+1,m,nd,h1,h2,hk=>by
  show bindL kindOf ((p,w)::P.zip vs) m x=_
  unfold bindL
  exact QeI (i:=i) (Rk.mp nd).2 (by simpa using h1) (by simpa using h2) hk
theorem QeJ{kindOf:Str->Option NameKind}{x:Str}{v:Value}:∀{P:List Str}{vs:List Value}{i:Nat}{m:Str->Option Value},P.Nodup->P[i]?=some x->vs[i]?=some v->kindOf x≠some .local ->
  bindC kindOf (P.zip vs) m x=some v
 |[],_,_,_,_,h,_,_=>by simp at h
 |_::_,[],_,_,_,_,h,_=>by simp at h
 |p::P,w::vs,0,m,nd,h1,h2,hk=>by
  simp at h1 h2;subst h1;subst h2
  show bindC kindOf ((p,w)::P.zip vs) m p=_
  unfold bindC
  rw[QeH λv hv=>(Rk.mp nd).1 (Wa hv).1,Um hk]
  simp
 |p::P,w::vs,i+1,m,nd,h1,h2,hk=>by
  show bindC kindOf ((p,w)::P.zip vs) m x=_
  unfold bindC
  exact QeJ (i:=i) (Rk.mp nd).2 (by simpa using h1) (by simpa using h2) hk
noncomputable def start(N:List Str)(vs:List V):St:=vs.map some++List.replicate (N.length-vs.length) none
noncomputable def cxOf(CX:CXT)(P:Program)(w:World)(K:Frag)(mg:Str->Option Value)(base:Heap)(N:List Str)(qual:Str)(scope:Scope)(f:Addr)(cd:Value)(A:Around)(outer:List Env)(s:Shared)(H:Hp)(E:XK):Cx where
 prog:=P
 w:=w
 K:=K
 mg:=mg
 base:=base
 A:=A.deeper (envOfC qual scope s.heap.objs.size f cd)
 N:=N
 s₀:=s
 H₀:=H
 env:=envOfC qual scope s.heap.objs.size f cd
 outer:=outer
 stack:=envOfC qual scope s.heap.objs.size f cd::outer
 ex:=[]
 calm:=true
 fn:=λ_=>true
 pn:=[]
 xe:=λe s'=>wpAny (model P w) (A.deeper (envOfC qual scope s.heap.objs.size f cd)) (leaving (envOfC qual scope s.heap.objs.size f cd) e) (λ_ s''=>CX outer H s E e s'') (λe' s''=>CX outer H s E e' s'') s'
theorem Qga{sc:Scope}{n:Nat}{x:Str}(h:sc.names.lookup x=some .cell):∃c,(cellsFrom n sc.names []).lookup x=some c:=by
 have q:=RW sc.names n [] (.inl h)
 exact Td.mp q
theorem QhI{CX:CXT}{P:Program}{w:World}{K:Frag}{mg:Str->Option Value}{base:Heap}{N ps:List Str}{qual:Str}{scope:Scope}{f:Addr}{cd:Value}{A:Around}{outer:List Env}{s s1:Shared}{H:Hp}{E:XK}{us:List Value}{vs:List V}(S:FnScope N ps scope)(hd:A.handled=none)(e0:Env0 P w K mg base A outer s H)(hl:vs.length=ps.length)(r:Vals vs us)(x:InCallC s s.heap.objs.size (bindL (envOfC qual scope s.heap.objs.size f cd).kindOf (ps.zip us) λ_=>none) (cellsFrom (s.heap.objs.size+1) scope.names []) (bindC (envOfC qual scope s.heap.objs.size f cd).kindOf (ps.zip us) λ_=>none) s1):
  Inv (cxOf CX P w K mg base N qual scope f cd A outer s H E) [] (start N vs) H s1:=by
 have hpl:ps.length<=N.length:=by have:=Wr List.length S.pre;rw[Tc]at this;omega
 obtain⟨h1,tk,rfl,hk⟩:=x.done
 have noA:∀b:Addr,b∉(cxOf CX P w K mg base N qual scope f cd A outer s H E).ex:=λb z=>absurd (show b∈([]:List Addr) from z) (by simp)
 refine⟨⟨e0.mod,S.kind,rfl,rfl,Ul _,λy z c h1 h2=>?_,λy hy=>?_,λy c _ h=>?_,λ_=>hd,Around.frames_deeper e0.frames,.inr ⟨rfl,rfl⟩,λb z=>absurd z (noA b),e0.bs,e0.bsz,λb _ _=>noA b,λb z=>absurd z (noA b),e0.funs,e0.frf⟩,
  rfl,e0.bare,Un.kept hk,⟨_,x.toInCall.ns,λi y v h1 h2 h3=>?_⟩,λy c h=>⟨_,x.cell y c h⟩,e0.hok.fresh (Ul _),λy c h=>?_,λp hp=>absurd (show p∈([]:List (Addr×Obj)) from hp) (by simp),e0.hok.kept hk,?_⟩
 ·exact name_of_addr x.apart (Tj h1) (Tj h2)
 ·have hy:scope.names.lookup y=some .cell\/scope.names.lookup y=some .free:=hy
  rcases hy with hy|hy
  ·exact Qga hy
  ·exact absurd rfl (S.nofree _ (Tj hy))
 ·exact UU (x.above y c (Tj h))
 ·have hi:i<vs.length:=by
   unfold start at h2
   by_cases hi:i<vs.length
   ·exact hi
   ·rw[UJ (by simpa using hi)]at h2
    rw[Tw]at h2
    split at h2 <;> cases h2
  have ha:vs[i]?=some v:=by
   unfold start at h2
   rw[UC (by simpa using hi),UB]at h2
   cases e:vs[i]? with
   |none=>rw[e]at h2;cases h2
   |some a=>rw[e]at h2;cases h2;rfl
  obtain⟨u,hu,rv⟩:=r.get ha
  have hp:ps[i]?=some y:=by
   rw[<-S.pre,List.getElem?_take_of_lt (by omega)];exact h1
  have ndP:ps.Nodup:=by rw[<-S.pre];exact S.nd.sublist (List.take_sublist _ _)
  refine⟨u,rv,?_⟩
  rcases S.par y (U3 hp) with k|k
  ·exact .inl ⟨k,QeI ndP hp hu k⟩
  ·obtain⟨c,e⟩:=Qga (n:=s.heap.objs.size+1) k
   refine .inr ⟨.inl k,c,e,?_⟩
   have q:=x.cell y c e
   rw[QeJ ndP hp hu (by show scope.names.lookup y≠_;rw[k];decide)]at q
   exact q
 ·exact e0.hok.fresh (UU (x.above y c (Tj h)))
 ·unfold start
  show _=N.length
  rw[Ut,Ud,US]
  omega
theorem QmC{CX:CXT}{P:Program}{w:World}{K:Frag}{mg:Str->Option Value}{base:Heap}{k:Nat}{f:Addr}{name qual:Str}{params:Arguments}{body:List Stmt}{scope:Scope}{dV kV doc pm cdv ct oc:Value}{an od:Option Addr}{osl:Array (Option Value)}{N ps:List Str}{sp:Sp}(lk:K.lookup f=some ⟨oc,od,.func (fnOf name qual params body scope dV kV doc pm an cdv ct),osl⟩)(hcd:codeIn K cdv qual=true)(S:FnScope N ps scope)(len:∀vs H Q E,sp vs H Q E->vs.length=ps.length)(hbody:∀(A:Around) (outer:List Env) (s:Shared) (H:Hp) (vs:List V) (Q:VK) (E:XK),Room k (A.deeper (envOfC qual scope s.heap.objs.size f cdv))->sp vs H Q E ->
   ∃t,PSs (cxOf CX P w K mg base N qual scope f cdv A outer s H E) body t/\t {nx:=λ_ H'=>Q .non H',rt:=Q} (start N vs) H):
  FnOk P w K mg base CX (k+1) f (fnOf name qual params body scope dV kV doc pm an cdv ct) ps sp:=by
 refine⟨len,λA outer s H args us vs Q E hr e0 hb r hsp=>?_⟩
 have hl:=len _ _ _ _ hsp
 have KX:K.In s.heap:=e0.mod.kin.keeps λb o e=>(e0.bs b o e).1
 have lim:s.heap.NoLimit:=e0.mod.nolimit.keeps λb o e=>(e0.bs b o e).1
 have hkind:∀y∈ps.zip us,scope.names.lookup y.1=some .local\/(scope.names.lookup y.1=some .cell/\((cellsFrom (s.heap.objs.size+1) scope.names []).lookup y.1).isSome=true):=λ⟨n,v⟩ hy=>by
  rcases S.par n (Wa hy).1 with q|q
  ·exact .inl q
  ·exact .inr ⟨q,RW _ _ _ (.inl q)⟩
 refine codeAny_call_function hr.depth (KX _ _ lk) rfl S.co S.gen rfl (codeRec_of KX hcd) (hb _ _ _ _ ?_)
 refine wpAny_newFunctionEnv_cells S.kind hkind λenv he s1 x=>?_
 subst he
 refine⟨lim.keeps x.toInCall.keep,codeAny_func ?_⟩
 obtain⟨t,ht,hq⟩:=hbody A outer s H vs Q E (hr.deeper _) hsp
 have I:Inv (cxOf CX P w K mg base N qual scope f cdv A outer s H E) [] (start N vs) H s1:=QhI S hr.hd e0 hl r x
 refine UV (ht [] s1 (start N vs) H _ I hq) (λfl s' hs=>?_) λe s' hs=>hs
 have fin:∀{σ':St}{H':Hp}{v:V}{u:Value},Inv (cxOf CX P w K mg base N qual scope f cdv A outer s H E) [] σ' H' s'->RelV v u->Q v H'->CE outer P w H s Q u s' :=
  λ{σ' H' v u} J rv q=>⟨v,H',J.os,J.bare,J.base,J.hok,rv,q⟩
 cases fl with
 |ret u =>
  obtain⟨v,σ',H',J,rv,q⟩:=hs
  exact fin J rv q
 |next =>
  obtain⟨σ',H',J,q⟩:=hs
  exact fin (v:=V.non) (u:=Value.none) J rfl q
 |brk =>
  obtain⟨_,_,_,q⟩:=hs
  exact False.elim q
 |cont =>
  obtain⟨_,_,_,q⟩:=hs
  exact False.elim q
end
section
section
variable{X:Cx}{x:Str}{p pos:Pos}{e:Expr}{es:List Expr}{t:TA}{id T:String}{r:List V->Hp->VK->Prop}
noncomputable def tCB(r:List V->Hp->VK->Prop)(t:TA):TE:=λσ H Q=>t σ H λvs H1=>r vs H1 Q
theorem QaM(hc:CallR X (.builtin id) r)(hg:Gl X x)(hm:X.mg x=none)(hv:bootBuiltins x=some (.builtin id))(ha:PA X (e::es) t)(hn:x ≠ "__name__":=by decide)(hdb:(x == ("__debug__" : Str))=false:=by decide)(he:starEach (e::es) X.env=(false,eval e X.env)::starEach es X.env:=by rfl)(hpl:(backTo pos (starEach es X.env)).any (·.1)=false:=by rfl):PE X (.Call (.Name x p) (e::es) [] pos) (tCB r t):=by
 intro pins s σ H Q I h
 refine TR (QeD I hg hm hv ?_ hn hdb)
 exact PyProof.Rows.callWith_builtin1 (thn (ha pos pins s σ H _ I h) λus s1 ⟨vs,H1,I1,r1,q1⟩=>hc pins s1 σ H1 vs us Q I1 r1 q1) he hpl
theorem QhJ(hc:CallR X (.type T) r)(hg:Gl X x)(hm:X.mg x=none)(hv:bootBuiltins x=some (.type T))(ha:PA X (e::es) t)(hn:x ≠ "__name__":=by decide)(hdb:(x == ("__debug__" : Str))=false:=by decide)(he:starEach (e::es) X.env=(false,eval e X.env)::starEach es X.env:=by rfl)(hpl:(backTo pos (starEach es X.env)).any (·.1)=false:=by rfl):PE X (.Call (.Name x p) (e::es) [] pos) (tCB r t):=by
 intro pins s σ H Q I h
 refine TR (QeD I hg hm hv ?_ hn hdb)
 exact TC (thn (ha pos pins s σ H _ I h) λus s1 ⟨vs,H1,I1,r1,q1⟩=>hc pins s1 σ H1 vs us Q I1 r1 q1) he hpl
end
end
end L2
namespace HT
open PySem PyProof.Rows
section
open PySem.SeqAt
open PySem.AutoSeq1 (wpAny_loadPart')
open PySem.MeetsSeq PySem.MeetsSeq2 PySem.MeetsSeq3
end
section
variable{prog:Program}{w:World}{A:Around}{E:Value->Shared->Prop}{s:Shared}
theorem cat_tup{t b:Addr}{vs ws:List Value}{Q:Value->Shared->Prop}(ht:IsTup s.heap t vs.toArray)(hb:IsTup s.heap b ws.toArray)(hv:vs≠[])(h1:ws=[]->Q (.ref t) s)(h2:ws≠[]->Q (.ref s.heap.objs.size) {s with heap:=s.heap.push {cls:=.type "tuple",data:=.seq (vs++ws).toArray} })(hsz:vs.length+ws.length<=sizeLine):wpAny (model prog w) A (binaryOp .Add (.ref t) (.ref b)) Q E s:=by
 obtain⟨⟨cls,dd,data,sl⟩,ho,hc,n,hd⟩:=id ht
 obtain⟨⟨cls2,dd2,data2,sl2⟩,ho2,hc2,n2,hd2⟩:=id hb
 simp only at hc hd hc2 hd2
 subst hc hd hc2 hd2
 have e:vs.toArray++ws.toArray=(vs++ws).toArray:=by simp
 by_cases hw:ws=[]
 ·exact concat_meets ⟨_,ho,rfl⟩ ⟨_,ho2,rfl⟩ RU seq_tuple_add T1 TW (TQ _ _)
   (tuple_addW1 t b vs.toArray ws.toArray n n2 dd dd2 sl sl2 (by simpa using hv) (by simp[hw])) ⟨ho,ho2,h1 hw⟩
 ·refine concat_meets ⟨_,ho,rfl⟩ ⟨_,ho2,rfl⟩ RU seq_tuple_add T1 TW (TQ _ _)
   (tuple_addW2 t b vs.toArray ws.toArray n n2 dd dd2 sl sl2 (by simpa using hv) (by simpa using hw) (by rw[Ue,Ue];exact hsz)) ⟨ho,ho2,?_⟩
  rw[e]
  exact h2 hw
noncomputable def sIx(n d:Nat):Option Int->Nat
 |none=>d
 |some v=>if v<0 then (v+(n:Int)).toNat else min v.toNat n
theorem QmD(n d:Nat)(hd:d<=n)(o:Option Int):sIx n d o<=n:=by
 cases o with
 |none=>exact hd
 |some v =>
  show(if v<0 then (v+(n:Int)).toNat else min v.toNat n)<=n
  by_cases hv:v<0
  ·rw[Uh hv];omega
  ·rw[Um hv];exact Nat.min_le_right _ _
theorem QhK(v:Int)(n d:Nat):(if v<0 then max (v+(n:Int)) 0 else min v (n:Int))=((sIx n d (some v):Nat):Int):=by
 show(if v<0 then max (v+(n:Int)) 0 else min v (n:Int))=(((if v<0 then (v+(n:Int)).toNat else min v.toNat n):Nat):Int)
 by_cases hv:v<0
 ·simp only[Uh hv];omega
 ·simp only[Um hv];omega
theorem QgT(lo hi:Option Int)(n:Nat):Builtin.Slice.sliceAdjust lo hi 1 (n:Int)=(((sIx n 0 lo:Nat):Int),((sIx n n hi:Nat):Int)):=by
 have h1:¬((1:Int)<0):=by omega
 unfold Builtin.Slice.sliceAdjust
 simp only[h1,Rr]
 refine Prod.ext ?_ ?_
 ·cases lo with
  |none=>rfl
  |some v=>exact QhK v n 0
 ·cases hi with
  |none=>rfl
  |some v=>exact QhK v n n
theorem QgU(i j:Nat):Builtin.Slice.slicePlaces (i:Int) (j:Int) 1=j-i:=by
 unfold Builtin.Slice.slicePlaces
 have h1:(1:Int) > 0:=by omega
 simp only[h1,T8,Int.ediv_one]
 split <;> omega
theorem Qdq{v:Value}{o:Option Int}{Q:Option Int->Shared->Prop}(p:IsPart v o)(h:Q o s):wpAny (model prog w) A (Builtin.Slice.slicePartIndex v) Q E s:=by
 cases p with
 |none=>exact slicePart_none h
 |int i t=>exact slicePart_int h
theorem sliceApplied_gen{sl:Addr}{vl vu:Value}{lo hi:Option Int}{n:Nat}{Q:Int×Int×Nat->Shared->Prop}(hs:s.heap.IsSliceOf sl vl vu .none)(pl:IsPart vl lo)(pu:IsPart vu hi)(h:Q (((sIx n 0 lo:Nat):Int),1,sIx n n hi-sIx n 0 lo) s):wpAny (model prog w) A (Builtin.Slice.sliceApplied (.ref sl) (pure (n:Int))) Q E s:=by
 obtain⟨os,hos,hcs,hds⟩:=id hs
 unfold Builtin.Slice.sliceApplied Builtin.Slice.sliceFields
 refine Ua (Ua (UK hos hds (x:=vl) rfl (Ua (UK hos hds (x:=vu) rfl (Ua (UK hos hds (x:=.none) rfl (Uj ?_)))))))
 refine Ua (slicePart_none ?_)
 show wpAny _ _ (if ((1:Int) == 0)=true then _ else _) _ _ s
 rw[Um (by decide)]
 refine Ua (Qdq pl (Ua (Qdq pu (Ua (Uj ?_)))))
 show wpAny _ _ (match Builtin.Slice.sliceAdjust lo hi 1 (n:Int) with|(lo,hi)=>pure (lo,(1:Int),Builtin.Slice.slicePlaces lo hi 1)) _ _ s
 rw[QgT lo hi n]
 show wpAny _ _ (pure (((sIx n 0 lo:Nat):Int),(1:Int),Builtin.Slice.slicePlaces ((sIx n 0 lo:Nat):Int) ((sIx n n hi:Nat):Int) 1)) _ _ s
 rw[QgU]
 exact Uj h
theorem Qjs(xs:Array Value)(i k:Nat):((List.range k).filterMap λ(m:Nat)=>xs[((i:Int)+(m:Int)*1).toNat]?).toArray=((xs.toList.drop i).take k).toArray:=by
 have e:(λ(m:Nat)=>xs[((i:Int)+(m:Int)*1).toNat]?)=λm=>xs[i+m]?:=by
  funext m
  have:((i:Int)+(m:Int)*1).toNat=i+m:=by omega
  rw[this]
 rw[e]
 have:=pick_run xs i k
 rw[List.filterMap_map]at this
 have e2:((λx=>xs[x]?) ∘ λx=>i+x)=λm=>xs[i+m]?:=rfl
 rw[e2]at this
 rw[this]
theorem getItem_tuple_cut{t sl:Addr}{items:Array Value}{vl vu:Value}{lo hi:Option Int}{Q:Value->Shared->Prop}(ht:IsTup s.heap t items)(hs:s.heap.IsSliceOf sl vl vu .none)(pl:IsPart vl lo)(pu:IsPart vu hi)(hw:¬(sIx items.size 0 lo=0/\sIx items.size items.size hi=items.size))(h:Q (.ref s.heap.objs.size) {s with heap:=s.heap.push {cls:=.type "tuple",data:=.seq ((items.toList.drop (sIx items.size 0 lo)).take (sIx items.size items.size hi-sIx items.size 0 lo)).toArray} })(hsz:items.size<=sizeLine):wpAny (model prog w) A (getItem (.ref t) (.ref sl)) Q E s:=by
 have htake:sizeOk (.seq ((items.toList.drop (sIx items.size 0 lo)).take (sIx items.size items.size hi-sIx items.size 0 lo)).toArray):=by
  show((items.toList.drop (sIx items.size 0 lo)).take (sIx items.size items.size hi-sIx items.size 0 lo)).toArray.size<=sizeLine
  rw[Ue,Tc,T9,Ti]
  omega
 have hj:sIx items.size items.size hi<=items.size:=QmD _ _ (Ul _) hi
 obtain⟨os,hos,hcs,hds⟩:=id hs
 have hTs:s.TypeIs (.ref sl) "slice":=⟨os,hos,hcs⟩
 unfold getItem
 try with_reducible refine Tu ?_
 first|refine Ua (Uj ?_)|skip
 refine Ua (wpAny_sequenceKey ht.typeIs (by decide) ?_)
 refine Ua (U2 (name:=Str.ofString "__getitem__") ht.typeIs UP
  (Tx UP ht.typeIs entry_tuple_getitem ?_ (args_tuple_getitem _ _)))
 show wpAny _ _ (Builtin.Tuple.tupleItemsOf (.ref t) >>= _) _ _ s
 refine Ua (tupleItemsOf_ ht ?_)
 refine Ua (wpAny_typeOf hTs ?_)
 rw[Uh (by decide)]
 refine Ua (sliceApplied_gen hs pl pu ?_)
 have hno:¬((((sIx items.size 0 lo:Nat):Int) == 0 && (1:Int) == 1 && (sIx items.size items.size hi-sIx items.size 0 lo) == items.size)=true):=by
  intro q
  rw[Uu,Uu]at q
  have q1:((sIx items.size 0 lo:Nat):Int)=0:=eq_of_beq q.1.1
  have q2:sIx items.size items.size hi-sIx items.size 0 lo=items.size:=eq_of_beq q.2
  exact hw ⟨by omega,by omega⟩
 show wpAny _ _ (if (((sIx items.size 0 lo:Nat):Int) == 0 && (1:Int) == 1 && (sIx items.size items.size hi-sIx items.size 0 lo) == items.size)=true then _ else _) _ _ s
 rw[Um hno,Qjs]
 first
  |exact Ua (m:=Builtin.Tuple.tupleExact _) (U6 (Uj ⟨_,rfl,Uj h⟩) htake)
  |exact Ua (m:=Builtin.Tuple.tupleExact _) (U6 (Ua (Uj (Uj ⟨_,rfl,Uj h⟩))) htake)
  |exact Ua (Ua (m:=Builtin.Tuple.tupleExact _) (U6 (Uj (Uj ⟨_,rfl,Uj h⟩)) htake))
  |exact Ua (Ua (m:=Builtin.Tuple.tupleExact _) (U6 (Uj ⟨_,rfl,Uj h⟩) htake))
end
end HT
namespace L2
open PySem PySem.Spec PyProof.Rows
section
noncomputable abbrev TO:=St->Hp->(Option Int->Hp->Prop)->Prop
noncomputable def PO(X:Cx)(e:Option Expr)(t:TO):Prop :=
 ∀(pins:List (Addr×Obj))(s:Shared)(σ:St)(H:Hp)(Q:Option Int->Hp->Prop),Inv X pins σ H s->t σ H Q ->
  wpAny (model X.prog X.w) X.A (evalPart e X.env) (λu s'=>∃o H',Inv X pins σ H' s'/\IsPart u o/\Q o H') X.xe s
noncomputable def Qk6:TO:=λ_ H Q=>Q none H
noncomputable def QnT(t:TE):TO:=λσ H Q=>t σ H λx H1=>∃i,x=.int i/\Q (some i) H1
theorem intsAre_of{ns:List Int}:∀{us:List Value},Vals (ns.map V.int) us->IntsAre us ns:=by
 induction ns with
 |nil=>intro us r;rw[List.map_nil]at r;cases r;exact .nil
 |cons n ns ih =>
  intro us r
  rw[UY]at r
  cases r with
  |cons r1 r2 =>
   obtain⟨t,e⟩:=r1
   subst e
   exact .cons n t (ih r2)
section
variable{X:Cx}{e:Expr}{te:TE}{lo hi:Option Expr}{tl th:TO}{pos p2:Pos}
theorem Qk7:PO X none Qk6:=by
 intro pins s σ H Q I h
 rw[evalPart_none]
 exact Uj ⟨none,H,I,.none,h⟩
theorem Qk8(h:PE X e te):PO X (some e) (QnT te):=by
 intro pins s σ H Q I hw
 rw[evalPart_some]
 refine thn (h pins s σ H _ I hw) λu s1 ⟨x,H1,I1,r1,q1⟩=>?_
 obtain⟨i,rfl,q⟩:=q1
 obtain⟨t,rfl⟩:=r1
 exact⟨some i,H1,I1,.int i t,q⟩
noncomputable def SlR(X:Cx)(r:V->Option Int->Option Int->Hp->VK->Prop):Prop :=
 ∀(pins:List (Addr×Obj))(s:Shared)(σ:St)(H:Hp)(x:V)(v vl vu:Value)(lo hi:Option Int)(sl:Addr)(Q:VK),Inv X pins σ H s->RelV x v->s.heap.IsSliceOf sl vl vu .none->IsPart vl lo->IsPart vu hi->r x lo hi H Q ->
  ∃T id,typeLookup (.type T) "__getitem__" = pure (some (.builtin id))/\s.TypeIs v T/\wpAny (model X.prog X.w) X.A (getItem v (.ref sl)) (EP X pins σ Q) X.xe s
theorem SlR.or{r r':V->Option Int->Option Int->Hp->VK->Prop}(h:SlR X r)(h':SlR X r'):SlR X (λx lo hi H Q=>r x lo hi H Q\/r' x lo hi H Q):=by
 intro pins s σ H x v vl vu lo hi sl Q I rx hs pl pu q
 rcases q with q|q
 ·exact h pins s σ H x v vl vu lo hi sl Q I rx hs pl pu q
 ·exact h' pins s σ H x v vl vu lo hi sl Q I rx hs pl pu q
noncomputable def tSl(r:V->Option Int->Option Int->Hp->VK->Prop)(te:TE)(tl th:TO):TE:=λσ H Q=>te σ H λx H1=>tl σ H1 λl H2=>th σ H2 λu H3=>r x l u H3 Q
theorem Qjt{r:V->Option Int->Option Int->Hp->VK->Prop}(hr:SlR X r)(he:PE X e te)(hl:PO X lo tl)(hu:PO X hi th):PE X (.Subscript e (.Slice lo hi none p2) pos) (tSl r te tl th):=by
 intro pins s σ H Q I h
 refine Subscript_ (thn (he pins s σ H _ I h) λv s1 ⟨x,H1,I1,r1,q1⟩=>?_)
 refine wpAny_Slice (thn (hl pins s1 σ H1 _ I1 q1) λvl s2 ⟨l,H2,I2,pl,q2⟩=>thn (hu pins s2 σ H2 _ I2 q2) λvu s3 ⟨u,H3,I3,pu,q3⟩=>?_)
 rw[evalPart_none]
 refine Uj ?_
 have I4:Inv X pins σ H3 {s3 with heap:=s3.heap.push {cls:=.type "slice",data:=.fields #[vl,vu,.none]} }:=I3.kept (t':=s3.toks) λb ob q=>Ub _ q
 obtain⟨T,id,hT,ht,hg⟩:=hr pins {s3 with heap:=s3.heap.push {cls:=.type "slice",data:=.fields #[vl,vu,.none]} } σ H3 x v vl vu l u s3.heap.objs.size Q I4 r1 (Heap.IsSliceOf.new ..) pl pu q3
 show wpAny (model X.prog X.w) X.A (subscriptTail e (.Slice lo hi none p2) v (.ref s3.heap.objs.size)) (EP X pins σ Q) X.xe {s3 with heap:=s3.heap.push {cls:=.type "slice",data:=.fields #[vl,vu,.none]} }
 exact tail_any (ops:=[.ref s3.heap.objs.size,v]) ht hT hg (by with_unfolding_all rfl)
noncomputable def cutV(xs:List V)(lo hi:Option Int):List V:=(xs.drop (HT.sIx xs.length 0 lo)).take (HT.sIx xs.length xs.length hi-HT.sIx xs.length 0 lo)
theorem Qcz(xs:List V)(lo hi:Option Int):(cutV xs lo hi).length<=xs.length:=by
 unfold cutV
 rw[Tc,T9]
 omega
noncomputable def rSlT(K:Frag):V->Option Int->Option Int->Hp->VK->Prop:=λx lo hi H Q=>∃a xs,x=.ref a/\SqT K H a xs /\
 ¬(HT.sIx xs.length 0 lo=0/\HT.sIx xs.length xs.length hi=xs.length)/\∀p,H p=none->Q (.ref p) (upd H p (.tup (cutV xs lo hi)))
theorem sl_tup:SlR X (rSlT X.K):=by
 intro pins s σ H x v vl vu lo hi sl Q I rx hs pl pu h
 obtain⟨a,xs,rfl,hx,hw,q⟩:=h
 cases rx
 obtain⟨its,r,ht,hz⟩:=I.tuple hx
 have hlen:its.toArray.size=xs.length:=by rw[Ue];exact r.length.symm
 refine⟨"tuple",_,UP.lookup,ht.typeIs,?_⟩
 refine HT.getItem_tuple_cut ht hs pl pu (by rw[hlen];exact hw) ?_ (by rw[hlen];exact hz)
 rw[hlen]
 refine⟨.ref s.heap.objs.size,_,I.laid (t':=s.toks) (o:=.tup (cutV xs lo hi)) (λb ob q=>Ub _ q) (Ul _) ?_,rfl,q _ (I.hok.fresh (Ul _))⟩
 exact⟨Uw (Qcz xs lo hi) hz,_,(r.drop (HT.sIx xs.length 0 lo)).take (HT.sIx xs.length xs.length hi-HT.sIx xs.length 0 lo),IsTup.new _ _⟩
noncomputable def QmE(K:Frag):R2:=λx y H Q=>∃a b xs ys,x=.ref a/\y=.ref b/\SqT K H a xs/\SqT K H b ys/\xs≠[]/\xs.length+ys.length<=sizeLine /\
 (ys=[]->Q (.ref a) H)/\(ys≠[]->∀p,H p=none->Q (.ref p) (upd H p (.tup (xs++ys))))
theorem Vals.nil_iff{xs:List V}{us:List Value}(r:Vals xs us):us=[]↔xs=[]:=by
 cases r with
 |nil=>simp
 |cons _ _=>simp
theorem Qk9:OpR X (binaryOp .Add) (QmE X.K):=by
 intro pins s σ H x y v u Q I rx ry h
 obtain⟨a,b,xs,ys,rfl,rfl,ha,hb,hx,hz,q1,q2⟩:=h
 cases rx
 cases ry
 obtain⟨its,r1,p1,_⟩:=I.tuple ha
 obtain⟨its2,r2,p2,_⟩:=I.tuple hb
 refine HT.cat_tup p1 p2 (λz=>hx (r1.nil_iff.mp z)) (λz=>⟨.ref a,H,I,rfl,q1 (r2.nil_iff.mp z)⟩) (λz=>?_) (by rw[<-r1.length,<-r2.length];exact hz)
 refine⟨.ref s.heap.objs.size,_,I.laid (t':=s.toks) (o:=.tup (xs++ys)) (λb ob q=>Ub _ q) (Ul _) ?_,rfl,q2 (λw=>z (r2.nil_iff.mpr w)) _ (I.hok.fresh (Ul _))⟩
 exact⟨by rw[Ut];exact hz,_,r1.append r2,IsTup.new _ _⟩
end
end
section
noncomputable def ixN(n:Nat)(i:Int):Option Nat:=if 0<=i then (if i<n then some i.toNat else none) else if -(n:Int)<=i then some (i+n).toNat else none
noncomputable def atI{α:Type}(xs:List α)(i:Int):Option α:=(ixN xs.length i).bind λj=>xs[j]?
theorem QhL{n:Nat}{i:Int}{j:Nat}(h:ixN n i=some j):seqIndex? i n=some j/\j<n /\ -(n:Int)<=i/\i<n:=by
 unfold ixN at h
 by_cases h0:0<=i
 ·rw[Uh h0]at h
  by_cases h1:i<n
  ·rw[Uh h1]at h
   have e:i.toNat=j:=Option.some.inj h
   exact⟨by rw[seqIndex_of h0 h1,e],by omega,by omega,h1⟩
  ·rw[Um h1]at h;cases h
 ·rw[Um h0]at h
  by_cases h1 : -(n:Int)<=i
  ·rw[Uh h1]at h
   have e:(i+n).toNat=j:=Option.some.inj h
   exact⟨by rw[seqIndex_neg (by omega) h1,e],by omega,h1,by omega⟩
  ·rw[Um h1]at h;cases h
theorem Qfr{α:Type}{xs:List α}{i:Int}{v:α}(h:atI xs i=some v):∃j,seqIndex? i xs.length=some j/\xs[j]?=some v/\j<xs.length /\ -(xs.length:Int)<=i/\i<xs.length:=by
 unfold atI at h
 cases e:ixN xs.length i with
 |none=>rw[e]at h;cases h
 |some j =>
  rw[e]at h
  obtain⟨h1,h2,h3,h4⟩:=QhL e
  exact⟨j,h1,h,h2,h3,h4⟩
def Qfs(b:Expr):Prop:=∀o i,subscripted b false o i=operate [o,i] (getItem o i)
noncomputable def IxR(X:Cx)(r:R2):Prop :=
 ∀(value slice:Expr)(pins:List (Addr×Obj))(s:Shared)(σ:St)(H:Hp)(x y:V)(v u:Value)(Q:VK),Inv X pins σ H s->RelV x v->RelV y u->r x y H Q ->
  subscripted slice false v u=operate [v,u] (getItem v u)->wpAny (model X.prog X.w) X.A (subscriptTail value slice v u) (EP X pins σ Q) X.xe s
noncomputable def MtR(X:Cx)(id:String)(r:V->List V->Hp->VK->Prop):Prop :=
 ∀(pins:List (Addr×Obj))(s:Shared)(σ:St)(H:Hp)(x:V)(xs:List V)(v:Value)(us:List Value)(Q:VK),Inv X pins σ H s->RelV x v->Vals xs us->r x xs H Q ->
  wpAny (model X.prog X.w) X.A (call (.builtin id) (v::us)) (EP X pins σ Q) X.xe s
section
variable{X:Cx}{a b:Expr}{ta tb:TE}{pos:Pos}
theorem IxR.or{r r':R2}(h:IxR X r)(h':IxR X r'):IxR X (λx y H Q=>r x y H Q\/r' x y H Q):=by
 intro value slice pins s σ H x y v u Q I rx ry q hs
 rcases q with q|q
 ·exact h value slice pins s σ H x y v u Q I rx ry q hs
 ·exact h' value slice pins s σ H x y v u Q I rx ry q hs
theorem MtR.or{id:String}{r r':V->List V->Hp->VK->Prop}(h:MtR X id r)(h':MtR X id r'):MtR X id (λx xs H Q=>r x xs H Q\/r' x xs H Q):=by
 intro pins s σ H x xs v us Q I rx rs q
 rcases q with q|q
 ·exact h pins s σ H x xs v us Q I rx rs q
 ·exact h' pins s σ H x xs v us Q I rx rs q
theorem QnU{r:R2}(hr:IxR X r)(ha:PE X a ta)(hb:PE X b tb)(hs:Qfs b):PE X (.Subscript a b pos) (tOp r ta tb):=by
 intro pins s σ H Q I h
 exact Subscript_ (binT ha hb I h λv u s2 x y H2 I2 rx ry q=>hr a b pins s2 σ H2 x y v u Q I2 rx ry q (hs _ _))
noncomputable def rIxL(K:Frag):R2:=λx y H Q=>∃p xs i v,x=.ref p/\y=.int i/\SqL K H p xs/\atI xs i=some v/\Q v H
noncomputable def rIxT(K:Frag):R2:=λx y H Q=>∃p xs i v,x=.ref p/\y=.int i/\SqT K H p xs/\atI xs i=some v/\Q v H
noncomputable def rIxS:R2:=λx y H Q=>∃z i c,x=.str z/\y=.int i/\z.length<=sizeLine/\atI z.cps.toList i=some c/\Q (.str ⟨#[c]⟩) H
theorem ix_list:IxR X (rIxL X.K):=by
 intro value slice pins s σ H x y v u Q I rx ry h hs
 obtain⟨p,xs,i,z,rfl,rfl,hq,he,q⟩:=h
 cases rx
 obtain⟨t,rfl⟩:=ry
 obtain⟨its,r,pl,hz⟩:=I.list hq
 obtain⟨j,h1,h2,h3,h4,h5⟩:=Qfr he
 obtain⟨w,ew,rw'⟩:=r.get h2
 have hl:=r.length
 have hn:=QeF
 have fin:EP X pins σ Q w s:=⟨z,H,I,rw',q⟩
 by_cases h0:0<=i
 ·have hj:i.toNat=j:=by
   rw[seqIndex_of h0 h5]at h1
   exact Option.some.inj h1
  exact item_listR pl.isList h0 (by omega) (by rw[hj];simpa using ew) fin hs
 ·have hj:(i+(its.toArray.size:Int)).toNat=j:=by
   rw[seqIndex_neg (by omega) h4]at h1
   rw[Ue,<-hl]
   exact Option.some.inj h1
  exact subscriptTail_builtinR (x:=w) pl.isList.typeIs slot_list_getitem.lookup
   (wpAny_getItem_list_neg (Q:=λr s'=>r=w/\EP X pins σ Q r s') pl.isList (by omega) (by rw[Ue] <;> omega) (by omega) (by rw[hj];simpa using ew) ⟨rfl,fin⟩) hs
theorem ix_tup:IxR X (rIxT X.K):=by
 intro value slice pins s σ H x y v u Q I rx ry h hs
 obtain⟨p,xs,i,z,rfl,rfl,hq,he,q⟩:=h
 cases rx
 obtain⟨t,rfl⟩:=ry
 obtain⟨its,r,pl,hz⟩:=I.tuple hq
 obtain⟨j,h1,h2,h3,h4,h5⟩:=Qfr he
 obtain⟨w,ew,rw'⟩:=r.get h2
 have hl:=r.length
 have hn:=QeF
 have fin:EP X pins σ Q w s:=⟨z,H,I,rw',q⟩
 exact subscriptTail_builtinR (x:=w) pl.typeIs slot_tuple_getitem.lookup
  (getItem_tuple (j:=j) (Q:=λr s'=>r=w/\EP X pins σ Q r s') pl (by omega) (by omega) (by rw[Ue,<-hl];exact h1) (by simpa using ew) ⟨rfl,fin⟩) hs
theorem QmF:IxR X rIxS:=by
 intro value slice pins s σ H x y v u Q I rx ry h hs
 obtain⟨z,i,c,rfl,rfl,hz,he,q⟩:=h
 obtain⟨t,rfl⟩:=rx
 obtain⟨t',rfl⟩:=ry
 obtain⟨j,h1,h2,h3,h4,h5⟩:=Qfr he
 have hl:z.cps.toList.length=z.length:=by simp[Str.length]
 rw[hl]at h1 h4 h5
 have hn:=QeF
 exact tail_any (typeIs_str s z t) slot_str_getitem.lookup (getItem_str (c:=c) (by
  have e1:decide (i < -(2^63:Int))=false:=Uo (by omega)
  have e2:decide (i>=2^63)=false:=Uo (by omega)
  rw[e1,e2,RO]) (by rw[h1];simpa using h2) ⟨.str ⟨#[c]⟩,H,I.tok _,⟨_,rfl⟩,q⟩) hs
noncomputable def rIx(K:Frag):R2:=λx y H Q=>rIxL K x y H Q\/rIxT K x y H Q\/rIxS x y H Q
theorem QmG:IxR X (rIx X.K):=ix_list.or (ix_tup.or QmF)
theorem QgV(its:List Value)(n j:Nat)(u:Value):Obj.mapSeq (·.setIfInBounds j u) {cls:=.type "list",data:=.seq its.toArray n} = {cls:=.type "list",data:=.seq (its.set j u).toArray n}:=by
 simp[Obj.mapSeq]
theorem Inv.lst{pins:List (Addr×Obj)}{σ:St}{H:Hp}{s:Shared}{p:Addr}{xs:List V}(I:Inv X pins σ H s)(h:H p=some (.lst xs)):
  ∃(its:List Value)(n:Nat),Vals xs its/\s.heap.get? p=some {cls:=.type "list",data:=.seq its.toArray n}/\xs.length<=sizeLine:=by
 obtain⟨z,its,n,r,e⟩:=I.hok p _ h
 exact⟨its,n,r,e,z⟩
theorem Inv.lstUpd{pins:List (Addr×Obj)}{σ:St}{H:Hp}{s:Shared}{p:Addr}{xs ys:List V}{its its':List Value}{n n':Nat}{f:Obj->Obj}(I:Inv X pins σ H s)(h:H p=some (.lst xs))(ho:s.heap.get? p=some {cls:=.type "list",data:=.seq its.toArray n})(hf:f {cls:=.type "list",data:=.seq its.toArray n} = {cls:=.type "list",data:=.seq its'.toArray n'})(r:Vals ys its')(hz:ys.length<=sizeLine)(t:Nat):
  Inv X pins σ (upd H p (.lst ys)) {s with heap:=s.heap.update p f,toks:=t}:=by
 have e:(s.heap.update p f).get? p=some {cls:=.type "list",data:=.seq its'.toArray n'}:=by
  rw[T7 f ho (by rw[hf] <;> rfl),hf]
 refine I.write (x:=p) (e:=p) (by rw[h];trivial) (.inl rfl) (λb u hb q=>(UZ _ _ (Ne.symm hb)).trans q) ⟨_,e⟩ ?_
 exact⟨hz,its',n',r,e⟩
noncomputable def QnV:V->V->V->Hp->(Hp->Prop)->Prop:=λo i v H Q=>∃p xs k j,o=.ref p/\i=.int k/\H p=some (.lst xs)/\ixN xs.length k=some j/\Q (upd H p (.lst (xs.set j v)))
theorem Qju:PSet X QnV:=by
 intro pins s σ H o i v ov iv u Q I ro ri rv h
 obtain⟨p,xs,k,j,rfl,rfl,hp,hj,q⟩:=h
 cases ro
 obtain⟨t,rfl⟩:=ri
 obtain⟨its,n,r,ho,hz⟩:=I.lst hp
 obtain⟨h1,h2,h3,h4⟩:=QhL hj
 have hl:=r.length
 have hn:=QeF
 have I':Inv X pins σ (upd H p (.lst (xs.set j v))) {s with heap:=s.heap.update p (Obj.mapSeq (·.setIfInBounds j u))} :=
  I.lstUpd hp ho (QgV its n j u) (r.set rv j) (by rw[UO];exact hz) s.toks
 by_cases h0:0<=k
 ·have hk:k.toNat=j:=by
   rw[seqIndex_of h0 h4]at h1
   exact Option.some.inj h1
  exact ki_setAt ho h0 (by omega) (by rw[Ue,<-hl];exact h4) (by rw[hk];exact⟨_,I',q⟩)
 ·have hk:(k+(its.toArray.size:Int)).toNat=j:=by
   rw[seqIndex_neg (by omega) h3]at h1
   rw[Ue,<-hl]
   exact Option.some.inj h1
  exact ki_setBack ho (by omega) (by rw[Ue,<-hl];exact h3) (by omega) (by rw[hk];exact⟨_,I',q⟩)
theorem QeK(lo hi:Option Int)(n:Nat):(sliceBounds lo hi none n).1=((HT.sIx n 0 lo:Nat):Int)/\(sliceBounds lo hi none n).2.1=((HT.sIx n n hi:Nat):Int)/\(sliceBounds lo hi none n).2.2=1:=by
 refine⟨?_,?_,rfl⟩
 ·cases lo with
  |none=>simp[sliceBounds,HT.sIx]
  |some i =>
   simp only[sliceBounds,HT.sIx,Option.getD_none,show(1:Int) > 0 by decide,T8]
   by_cases h:i<0
   ·simp only[h,T8] <;> omega
   ·simp only[h,Rr] <;> omega
 ·cases hi with
  |none=>simp[sliceBounds,HT.sIx]
  |some i =>
   simp only[sliceBounds,HT.sIx,Option.getD_none,show(1:Int) > 0 by decide,T8]
   by_cases h:i<0
   ·simp only[h,T8] <;> omega
   ·simp only[h,Rr] <;> omega
theorem QdQ(its:List Value)(lo hi:Option Int):slicePick its.toArray lo hi none=((its.drop (HT.sIx its.length 0 lo)).take (HT.sIx its.length its.length hi-HT.sIx its.length 0 lo)).toArray:=by
 obtain⟨h1,h2,h3⟩:=QeK lo hi its.toArray.size
 unfold slicePick
 rw[h1,h2,h3]
 simp only[sliceRange_one,pick_run,Ue] <;> rfl
noncomputable def rSlL(K:Frag):V->Option Int->Option Int->Hp->VK->Prop:=λx lo hi H Q=>∃a xs,x=.ref a/\SqL K H a xs/\∀p,H p=none->Q (.ref p) (upd H p (.lst (cutV xs lo hi)))
theorem Qla:SlR X (rSlL X.K):=by
 intro pins s σ H x v vl vu lo hi sl Q I rx hs pl pu h
 obtain⟨a,xs,rfl,hx,q⟩:=h
 cases rx
 obtain⟨its,r,ht,hz⟩:=I.list hx
 have hlen:=r.length
 refine⟨"list",_,slot_list_getitem.lookup,ht.isList.typeIs,?_⟩
 refine wpAny_getItem_list_slice ht.isList hs pl pu .none (by simp) ?_ (by rw[Ue] <;> omega)
 rw[QdQ,<-hlen]
 refine⟨.ref s.heap.objs.size,_,I.laid (t':=s.toks) (o:=.lst (cutV xs lo hi)) (λb ob q=>Ub _ q) (Ul _) ?_,rfl,q _ (I.hok.fresh (Ul _))⟩
 exact⟨Uw (Qcz xs lo hi) hz,_,0,(r.drop (HT.sIx xs.length 0 lo)).take (HT.sIx xs.length xs.length hi-HT.sIx xs.length 0 lo),Ur _ rfl⟩
noncomputable def Qc9:V->Bool
 |.non=>true
 |.bl _=>true
 |.int _=>true
 |.str _=>true
 |_=>false
noncomputable def eqV:V->V->Bool
 |.non,.non=>true
 |.bl a,.bl b=>a == b
 |.bl a,.int b=>(if a then 1 else 0) == b
 |.int a,.bl b=>a == (if b then 1 else 0)
 |.int a,.int b=>a == b
 |.str a,.str b=>a == b
 |_,_=>false
theorem QmH{A:Around}{s:Shared}{y x:V}{u v:Value}(ry:RelV y u)(rx:RelV x v)(fy:Qc9 y=true)(fx:Qc9 x=true):SeqAt.EqAt A s u v (eqV y x):=by
 cases y with
 |non =>
  cases ry
  cases x with
  |non=>cases rx;exact Rl _
  |bl b=>cases rx;exact SeqAt.EqAt.none_bool b
  |int b=>obtain⟨t,rfl⟩:=rx;exact SeqAt.EqAt.none_int b t
  |str b=>obtain⟨t,rfl⟩:=rx;exact SeqAt.EqAt.none_str b t
  |_=>exact absurd (show false=true from fx) Uc
 |bl a =>
  cases ry
  cases x with
  |non=>cases rx;exact SeqAt.EqAt.bool_none a
  |bl b=>cases rx;exact SeqAt.EqAt.bool_bool a b
  |int b=>obtain⟨t,rfl⟩:=rx;exact SeqAt.EqAt.bool_int a b t
  |str b=>obtain⟨t,rfl⟩:=rx;exact SeqAt.EqAt.bool_str a b t
  |_=>exact absurd (show false=true from fx) Uc
 |int a =>
  obtain⟨t',rfl⟩:=ry
  cases x with
  |non=>cases rx;exact SeqAt.EqAt.int_none a t'
  |bl b=>cases rx;exact SeqAt.EqAt.int_bool a t' b
  |int b=>obtain⟨t,rfl⟩:=rx;exact SeqAt.EqAt.int_int a t' b t
  |str b=>obtain⟨t,rfl⟩:=rx;exact Rz a t' b t
  |_=>exact absurd (show false=true from fx) Uc
 |str a =>
  obtain⟨t',rfl⟩:=ry
  cases x with
  |non=>cases rx;exact SeqAt.EqAt.str_none a t'
  |bl b=>cases rx;exact SeqAt.EqAt.str_bool a t' b
  |int b=>obtain⟨t,rfl⟩:=rx;exact RA a t' b t
  |str b=>obtain⟨t,rfl⟩:=rx;exact SeqAt.EqAt.str_str a t' b t
  |_=>exact absurd (show false=true from fx) Uc
 |_=>exact absurd (show false=true from fy) Uc
noncomputable def eqU(x:V)(u:Value):Bool:=match u with
 |.none=>eqV .non x
 |.bool b=>eqV (.bl b) x
 |.int i _=>eqV (.int i) x
 |.str z _=>eqV (.str z) x
 |_=>false
theorem Qko{x y:V}{u:Value}(r:RelV y u)(f:Qc9 y=true):eqU x u=eqV y x:=by
 cases y with
 |non=>cases r;rfl
 |bl b=>cases r;rfl
 |int i=>obtain⟨t,rfl⟩:=r;rfl
 |str z=>obtain⟨t,rfl⟩:=r;rfl
 |_=>exact absurd (show false=true from f) Uc
theorem QcA{x:V}:∀{xs:List V}{us:List Value},Vals xs us->xs.all Qc9=true->us.any (eqU x)=xs.any λy=>eqV y x
 |_,_,.nil,_=>rfl
 |y::xs,u::us,.cons r t,f=>by
  rw[TD,Uu]at f
  rw[Tv,Tv,Qko r f.1,QcA t f.2]
theorem Qbn{A:Around}{s:Shared}{x:V}{v:Value}(rx:RelV x v)(fx:Qc9 x=true):∀{xs:List V}{us:List Value},Vals xs us->xs.all Qc9=true->∀u∈us,SeqAt.EqAt A s u v (eqU x u)
 |_,_,.nil,_=>λu hu=>by cases hu
 |y::xs,u::us,.cons r t,f=>λu' hu=>by
  rw[TD,Uu]at f
  rcases Ui.mp hu with rfl|hu
  ·rw[Qko r f.1];exact QmH r rx f.1 fx
  ·exact Qbn rx fx t f.2 u' hu
noncomputable def inV(x:V)(xs:List V):Bool:=xs.any λy=>eqV y x
noncomputable def rIn(K:Frag)(neg:Bool):R2:=λx y H Q=>∃p xs,y=.ref p/\(SqL K H p xs\/SqT K H p xs)/\Qc9 x=true/\xs.all Qc9=true/\Q (.bl (if neg then !inV x xs else inV x xs)) H
theorem QeL:OpR X (compareOp .In) (rIn X.K false):=by
 intro pins s σ H x y v u Q I rx ry h
 obtain⟨p,xs,rfl,hq,fx,fs,q⟩:=h
 cases ry
 rcases hq with hq|hq
 ·obtain⟨its,r,pl,hz⟩:=I.list hq
  refine SeqAt.in_listAt (eqU x) pl.isList (λw hw=>Qbn rx fx r fs w (by simpa using hw)) ⟨.bl _,H,I,rfl,?_⟩
  rw[show its.toArray.any (eqU x)=its.any (eqU x) by simp,QcA r fs]
  exact q
 ·obtain⟨its,r,pl,hz⟩:=I.tuple hq
  refine SeqAt.in_tupleAt (eqU x) pl (λw hw=>Qbn rx fx r fs w (by simpa using hw)) ⟨.bl _,H,I,rfl,?_⟩
  rw[show its.toArray.any (eqU x)=its.any (eqU x) by simp,QcA r fs]
  exact q
theorem QeM:OpR X (compareOp .NotIn) (rIn X.K true):=by
 intro pins s σ H x y v u Q I rx ry h
 obtain⟨p,xs,rfl,hq,fx,fs,q⟩:=h
 cases ry
 rcases hq with hq|hq
 ·obtain⟨its,r,pl,hz⟩:=I.list hq
  refine SeqAt.notIn_listAt (eqU x) pl.isList (λw hw=>Qbn rx fx r fs w (by simpa using hw)) ⟨.bl _,H,I,rfl,?_⟩
  rw[show its.toArray.any (eqU x)=its.any (eqU x) by simp,QcA r fs]
  exact q
 ·obtain⟨its,r,pl,hz⟩:=I.tuple hq
  refine SeqAt.notIn_tupleAt (eqU x) pl (λw hw=>Qbn rx fx r fs w (by simpa using hw)) ⟨.bl _,H,I,rfl,?_⟩
  rw[show its.toArray.any (eqU x)=its.any (eqU x) by simp,QcA r fs]
  exact q
theorem QeN:CallR X (.builtin "len") (λxs H Q=>∃p ys,xs=[.ref p]/\(SqL X.K H p ys\/SqT X.K H p ys)/\Q (.int ys.length) H):=by
 intro pins s σ H xs us Q I r h
 obtain⟨p,ys,rfl,hq,q⟩:=h
 obtain⟨u,rfl,rx⟩:=QhC r
 cases rx
 have hn:=QeF
 rcases hq with hq|hq
 ·obtain⟨its,r',pl,hz⟩:=I.list hq
  have hlen:=r'.length
  exact Calls.call_len_list pl.isList (by simp only[Ue] <;> omega) ⟨.int ys.length,H,I.tok _,⟨s.toks+1,by rw[Ue,hlen]⟩,q⟩
 ·obtain⟨its,r',pl,hz⟩:=I.tuple hq
  have hlen:=r'.length
  exact len_tuple pl (by simp only[Ue] <;> omega) ⟨.int ys.length,H,I.tok _,⟨s.toks+1,by rw[Ue,hlen]⟩,q⟩
theorem CallR.or{f:Value}{r r':List V->Hp->VK->Prop}(h:CallR X f r)(h':CallR X f r'):CallR X f (λxs H Q=>r xs H Q\/r' xs H Q):=by
 intro pins s σ H xs us Q I rs q
 rcases q with q|q
 ·exact h pins s σ H xs us Q I rs q
 ·exact h' pins s σ H xs us Q I rs q
theorem QeO:CallR X (.type "list") (λxs H Q=>∃p ys,xs=[.ref p]/\(SqL X.K H p ys\/SqT X.K H p ys)/\∀l,H l=none->Q (.ref l) (upd H l (.lst ys))):=by
 intro pins s σ H xs us Q I r h
 obtain⟨p,ys,rfl,hq,q⟩:=h
 obtain⟨u,rfl,rx⟩:=QhC r
 cases rx
 have fin:∀(its:List Value),Vals ys its->ys.length<=sizeLine->∀(h':Heap)(c':Nat),(∀b o',s.heap.get? b=some o'->h'.get? b=some o') ->
   h'.get? s.heap.objs.size=some {cls:=.type "list",dict:=none,data:=.seq its.toArray c',slots:=#[]}->EP X pins σ Q (.ref s.heap.objs.size) {s with heap:=h'}:=λits r' hz h' c' kp e =>
  ⟨.ref s.heap.objs.size,_,I.laid (t':=s.toks) kp (Ul _) (show ObjOk X.prog X.w _ h' _ (.lst ys) from ⟨hz,its,c',r',e⟩),rfl,q _ (I.hok.fresh (Ul _))⟩
 rcases hq with hq|hq
 ·obtain⟨its,r',pl,hz⟩:=I.list hq
  have hlen:=r'.length
  obtain⟨o,ho,hc,n,hd⟩:=pl.isList
  exact call_list_seq p (.inl rfl) ho hc hd (λh' c' kp e=>fin its r' hz h' c' kp e) (by simp only[Ue] <;> omega)
 ·obtain⟨its,r',pl,hz⟩:=I.tuple hq
  have hlen:=r'.length
  obtain⟨o,ho,hc,n,hd⟩:=pl
  exact call_list_seq p (.inr rfl) ho hc hd (λh' c' kp e=>fin its r' hz h' c' kp e) (by simp only[Ue] <;> omega)
theorem QdR:CallR X (.type "tuple") (λxs H Q=>∃p ys,xs=[.ref p]/\((SqL X.K H p ys/\∀l,H l=none->Q (.ref l) (upd H l (.tup ys)))\/(SqT X.K H p ys/\Q (.ref p) H))):=by
 intro pins s σ H xs us Q I r h
 obtain⟨p,ys,rfl,h⟩:=h
 obtain⟨u,rfl,rx⟩:=QhC r
 cases rx
 rcases h with⟨hq,q⟩|⟨hq,q⟩
 ·obtain⟨its,r',pl,hz⟩:=I.list hq
  have hlen:=r'.length
  refine call_tuple_list pl.isList (λh' kp=>?_) (by simp only[Ue] <;> omega)
  have I1:Inv X pins σ H {s with heap:=h'}:=I.kept (t':=s.toks) kp
  have I2:Inv X pins σ (upd H h'.objs.size (.tup ys)) {s with heap:=h'.push {cls:=.type "tuple",data:=.seq its.toArray} } :=
   I1.laid (t':=s.toks) (λb o e=>Ub _ e) (Ul _) (show ObjOk X.prog X.w _ _ _ (.tup ys) from ⟨hz,its,r',IsTup.new _ _⟩)
  exact⟨.ref h'.objs.size,_,I2,rfl,q _ (I1.hok.fresh (Ul _))⟩
 ·obtain⟨its,r',pl,hz⟩:=I.tuple hq
  exact call_tuple_same pl ⟨.ref p,H,I,rfl,q⟩
def tyV(K:Frag)(T:String)(x:V)(H:Hp):Prop:=match x with
 |.str _=>T = "str"
 |.int _=>T = "int"
 |.ref p=>(T = "list" /\ ∃xs,SqL K H p xs)\/(T = "tuple" /\ ∃o,K.lookup p=some o/\o.cls=.type "tuple" /\ o.dict=none) \/
   (T = "dict" /\ ((∃kvs,H p=some (.dK kvs))\/∃kvs,H p=some (.dT kvs)))\/(T = "set" /\ ∃S n,H p=some (.set S n))
 |_=>False
theorem QmI{pins:List (Addr×Obj)}{σ:St}{H:Hp}{s:Shared}{T:String}{x:V}{v:Value}(I:Inv X pins σ H s)(r:RelV x v)(ty:tyV X.K T x H):
  s.TypeIs v T/\∀a,v=.ref a->∃ob,s.heap.get? a=some ob/\ob.dict=none:=by
 cases x with
 |str z =>
  obtain⟨t,rfl⟩:=r
  cases (show T = "str" from ty)
  exact⟨typeIs_str s z t,λ_ e=>nomatch e⟩
 |int i =>
  obtain⟨t,rfl⟩:=r
  cases (show T = "int" from ty)
  exact⟨typeIs_int s i t,λ_ e=>nomatch e⟩
 |ref p =>
  cases r
  rcases ty with⟨rfl,xs,hq⟩|⟨rfl,o,hk,hc,hd⟩|⟨rfl,hk⟩|⟨rfl,S,n,hk⟩
  ·obtain⟨its,_,pl,_⟩:=I.list hq
   refine⟨pl.isList.typeIs,λa e=>?_⟩
   cases e
   obtain⟨o,n,e,c,hd,_⟩:=pl
   exact⟨o,e,hd⟩
  ·refine⟨⟨o,I.kIn p o hk,hc⟩,λa e=>?_⟩
   cases e
   exact⟨o,I.kIn _ o hk,hd⟩
  ·have z:∃o,s.heap.get? p=some o/\o.ExactDict:=by
    rcases hk with⟨kvs,hk⟩|⟨kvs,hk⟩
    ·obtain⟨_,_,_,_,o,_,_,e,ex,_⟩:=I.hok p _ hk
     exact⟨o,e,ex⟩
    ·obtain⟨_,_,_,_,o,_,_,e,ex,_⟩:=I.hok p _ hk
     exact⟨o,e,ex⟩
   obtain⟨o,e,ex⟩:=z
   refine⟨⟨o,e,ex.1⟩,λa e2=>?_⟩
   cases e2
   exact⟨o,e,ex.2.1⟩
  ·obtain⟨o,_,_,_,e,ex,_⟩:=I.hok p _ hk
   refine⟨⟨o,e,ex.1⟩,λa e2=>?_⟩
   cases e2
   exact⟨o,e,ex.2.1⟩
 |_=>exact False.elim ty
noncomputable def tBM(K:Frag)(T:String)(r:V->List V->Hp->VK->Prop)(to:TE)(t:TA):TE:=λσ H Q=>to σ H λx H1=>tyV K T x H1/\t σ H1 λxs H2=>r x xs H2 Q
variable{o e:Expr}{es:List Expr}{to:TE}{t:TA}{name:Str}{apos cpos:Pos}{T id:String}{r:V->List V->Hp->VK->Prop}
theorem QmJ(pa:PlainAttrs T)(slot:Slot T name id)(hty:typeOf (.builtin id)=pure (.type "method_descriptor"))(hm:MtR X id r)(ho:PE X o to)(ha:PA X (e::es) t)(hbase:attributeBase o name X.env (eval o X.env)=eval o X.env:=by rfl)(hfew:((backTo cpos (starEach (e::es) X.env)).all (λx=>!x.1) && (backToKw cpos (keywordEach [] X.env)).all (λx=>x.1.isSome)
   && decide ((e::es).length+([]:List Keyword).length+(if ([]:List Keyword).isEmpty then 0 else 1)<30))=true:=by rfl)(hline:(apos.endLine == cpos.line)=true:=by rfl)(hs:starEach (e::es) X.env=(false,eval e X.env)::starEach es X.env:=by rfl)(hplain:(backTo cpos (starEach es X.env)).any (·.1)=false:=by rfl):
  PE X (.Call (.Attribute o name apos) (e::es) [] cpos) (tBM X.K T r to t):=by
 intro pins s σ H Q I h
 refine wpAny_Call_method_late hbase hfew hline rfl (thn (ho pins s σ H _ I h) λv s1 ⟨x,H1,I1,r1,ty,q1⟩=>?_)
 obtain⟨h1,h2⟩:=QmI I1 r1 ty
 refine⟨T,id,pa,slot,hty,h1,h2,?_⟩
 have hA:=ha cpos pins s1 σ H1 _ I1 q1
 rw[hs]at hA ⊢
 refine Calls.callWith_builtin (by show(false || (backTo cpos (starEach es X.env)).any (·.1))=false;rw[hplain] <;> rfl) (Calls.evalArgs_plain ?_)
 exact thn hA λus s2 ⟨vs,H2,I2,r2,q2⟩=>hm pins s2 σ H2 x vs v us Q I2 r1 r2 q2
end
end
section
noncomputable def MtM(X:Cx)(id:String)(r:V->List V->Hp->VK->Prop):Prop :=
 ∀(pins:List (Addr×Obj))(s:Shared)(σ:St)(H:Hp)(x:V)(xs:List V)(v:Value)(us:List Value)(Q:VK),Inv X pins σ H s->RelV x v->Vals xs us->r x xs H Q ->
  wpAny (model X.prog X.w) X.A (call (.builtin id) (v::us)) (EP X pins σ Q) X.xe s
theorem Vals.one:∀{x:V}{us:List Value},Vals [x] us->∃u,us=[u]/\RelV x u
 |_,_,.cons r .nil=>⟨_,rfl,r⟩
theorem Vals.two:∀{x y:V}{us:List Value},Vals [x,y] us->∃u v,us=[u,v]/\RelV x u/\RelV y v
 |_,_,_,.cons r (.cons q .nil)=>⟨_,_,rfl,r,q⟩
theorem Vals.zero:∀{us:List Value},Vals [] us->us=[]
 |_,.nil=>rfl
theorem Vals.dropLast{xs:List V}{us:List Value}(h:Vals xs us):Vals xs.dropLast us.dropLast:=by
 induction h with
 |nil=>exact .nil
 |cons r t ih =>
  cases t with
  |nil=>exact .nil
  |cons q t'=>exact .cons r ih
theorem Vals.rep{xs:List V}{us:List Value}(h:Vals xs us):∀k:Nat,Vals (List.replicate k xs).flatten (List.replicate k us).flatten
 |0=>.nil
 |k+1=>by
  rw[UM,UM,Tt,Tt]
  exact Vals.append h (Vals.rep h k)
theorem foldl_rep(its:List Value):∀(k:Nat)(acc:List Value),
  List.foldl (λx1 x2=>x1++x2) acc.toArray (List.replicate k its.toArray)=(acc++(List.replicate k its).flatten).toArray
 |0,acc=>by simp
 |k+1,acc=>by
  have e:acc.toArray++its.toArray=(acc++its).toArray:=by simp
  have e2:(acc++its)++(List.replicate k its).flatten=acc++(List.replicate (k+1) its).flatten:=by
   rw[UM,Tt,TH]
  rw[<-e2,<-foldl_rep its k (acc++its),<-e,UM,List.foldl_cons]
section
variable{X:Cx}{pins:List (Addr×Obj)}{σ:St}{H:Hp}{s:Shared}{l b:Addr}{xs ys zs:List V}
theorem Inv.lset{its its':List Value}{n:Nat}{f:Array Value->Array Value}{t':Nat}(I:Inv X pins σ H s)(hH:H l=some (.lst xs))(e:s.heap.get? l=some {cls:=.type "list",data:=.seq its.toArray n})(hf:f its.toArray=its'.toArray)(hv:Vals ys its')(hz:ys.length<=sizeLine):
  Inv X pins σ (upd H l (.lst ys)) {s with heap:=s.heap.update l (Obj.mapSeq f),toks:=t'}:=by
 have q:=PySem.IsL.update e f
 rw[hf]at q
 refine I.write (x:=l) (e:=l) (by rw[hH];exact trivial) (.inl rfl) (λb' u hb hu=>(UZ s.heap (Obj.mapSeq f) (Ne.symm hb)).trans hu) ⟨_,q⟩ ?_
 exact⟨hz,its',_,hv,q⟩
theorem Inv.lnew{its:List Value}{t':Nat}(I:Inv X pins σ H s)(hv:Vals ys its)(hz:ys.length<=sizeLine):
  Inv X pins σ (upd H s.heap.objs.size (.lst ys)) {s with heap:=s.heap.push {cls:=.type "list",data:=.seq its.toArray},toks:=t'} :=
 I.laid (λ_ _ q=>Ub _ q) (Ul _) ⟨hz,its,0,hv,Ur _ rfl⟩
theorem Inv.fresh(I:Inv X pins σ H s):H s.heap.objs.size=none:=I.hok.fresh (Ul _)
theorem Inv.lstM(I:Inv X pins σ H s)(hH:H l=some (.lst xs)):xs.length<=sizeLine/\∃(its:List Value)(n:Nat),Vals xs its/\xs.length=its.length/\s.heap.get? l=some {cls:=.type "list",data:=.seq its.toArray n}:=by
 obtain⟨z,its,n,r,e⟩:=I.hok l _ hH
 exact⟨z,its,n,r,r.length,e⟩
theorem Qgb{n:Nat}(h:n<=sizeLine):Builtin.List.listTooLong n=false:=by
 unfold Builtin.List.listTooLong
 exact Uo (by omega)
end
section
variable{X:Cx}
noncomputable def Qlb:V->List V->Hp->VK->Prop:=λx vs H Q=>∃l xs y,x=.ref l/\vs=[y]/\H l=some (.lst xs)/\xs.length<sizeLine/\Q .non (upd H l (.lst (xs++[y])))
theorem QhM:MtM X "list.append" Qlb:=by
 intro pins s σ H x vs v us Q I rx rv h
 obtain⟨l,xs,y,rfl,rfl,hH,hz,q⟩:=h
 cases rx
 obtain⟨u,rfl,ru⟩:=rv.one
 obtain⟨z,its,n,r,hl,e⟩:=I.lstM hH
 refine T0 F.slot_list_append ⟨_,e,rfl⟩ F.entry_list_append (F.args_list_append_2 _ _) (PySem.list_append l its.toArray n u (by rw[Ue];omega)) ⟨e,?_⟩
 refine⟨.non,_,I.lset (its':=its++[u]) hH e (by simp) (r.append (.cons ru .nil)) ?_,rfl,q⟩
 rw[Ut,Wc]
 omega
noncomputable def QhN:V->List V->Hp->VK->Prop:=λx vs H Q=>∃l b xs zs,x=.ref l/\vs=[.ref b]/\H l=some (.lst xs)/\H b=some (.lst zs)/\xs.length+zs.length<=sizeLine/\Q .non (upd H l (.lst (xs++zs)))
theorem QhO:MtM X "list.extend" QhN:=by
 intro pins s σ H x vs v us Q I rx rv h
 obtain⟨l,b,xs,zs,rfl,rfl,hH,hB,hz,q⟩:=h
 cases rx
 obtain⟨u,rfl,ru⟩:=rv.one
 cases ru
 obtain⟨z,its,n,r,hl,e⟩:=I.lstM hH
 obtain⟨z2,its2,n2,r2,hl2,e2⟩:=I.lstM hB
 have hsz:its.toArray.size+its2.toArray.size<=sizeLine:=by rw[Ue,Ue];omega
 have hlong:¬(!its.toArray.isEmpty && Builtin.List.listTooLong (its.toArray.size+its2.toArray.size))=true:=by
  rw[Qgb hsz,TL]
  exact Uc
 refine T0 F.slot_list_extend ⟨_,e,rfl⟩ F.entry_list_extend (F.args_list_extend_2 _ _)
  (AutoSeq1.list_extend_list_list_0 l its.toArray n b its2.toArray n2 hlong (by rw[Ue];omega) (by omega)) ⟨e,e2,?_⟩
 refine⟨.non,_,I.lset (its':=its++its2) hH e (by simp) (r.append r2) ?_,rfl,q⟩
 rw[Ut]
 omega
noncomputable def rCat:R2:=λx y H Q=>∃l b xs zs,x=.ref l/\y=.ref b/\H l=some (.lst xs)/\H b=some (.lst zs)/\xs.length+zs.length<=sizeLine/\∀p,H p=none->Q (.ref p) (upd H p (.lst (xs++zs)))
theorem QmK:OpR X (binaryOp .Add) rCat:=by
 intro pins s σ H x y v u Q I rx ry h
 obtain⟨l,b,xs,zs,rfl,rfl,hH,hB,hz,q⟩:=h
 cases rx
 cases ry
 obtain⟨z,its,n,r,hl,e⟩:=I.lstM hH
 obtain⟨z2,its2,n2,r2,hl2,e2⟩:=I.lstM hB
 refine PySem.P.add_list e e2 ?_ (by rw[Ue,Ue];omega)
 have ea:its.toArray++its2.toArray=(its++its2).toArray:=by simp
 rw[ea]
 exact⟨.ref _,_,I.lnew (t':=s.toks) (r.append r2) (by rw[Ut];omega),rfl,q _ I.fresh⟩
theorem Qlc{α:Type}(xs:List α)(k:Nat):(List.replicate k xs).flatten.length=k*xs.length:=by
 induction k with
 |zero=>simp
 |succ k ih=>rw[UM,Tt,Ut,ih,Nat.succ_mul,Nat.add_comm]
end
section
variable{prog:Program}{w:World}{A:Around}{E:Value->Shared->Prop}{s:Shared}
end
section
variable{X:Cx}
end
end
end L2
namespace Att
open PySem PySem.W PySem.Calls PyProof.Rows
theorem QcB{P:Params}{h:Heap}:∀(ns:List Int)(vs:List Value),WellAll P h vs (ns.map WData.int)->IntsAre vs ns:=by
 intro ns
 induction ns with
 |nil =>
  intro vs w
  rw[List.map_nil]at w
  cases w
  exact .nil
 |cons n ns ih =>
  intro vs w
  rw[UY]at w
  cases w with
  |cons a b =>
   cases a
   exact .cons _ _ (ih _ b)
theorem QhP{l:OpenLaw}{n:Nat}(hn:l.most=some n){P:Params}{h:Heap}{args:List WData}{vals:List Value}(hpre:l.row.toRowW.claim.pre args=true)(hwl:WellAll P h vals args):
  ∃a vs ns,vals=[Value.ref a]/\args=[WData.list (ns.map WData.int)]/\h.get? a=some {cls:=.type "list",data:=.seq vs.toArray}/\IntsAre vs ns/\ns.length<=n:=by
 have hsh:WShape.hasAll [] args [.list .int]=true:=(pre_splitW hpre).1
 have hc:l.pre.holds [] {args:=args}=true:=(pre_splitW hpre).2
 obtain⟨d,r,rfl,h1,h2⟩:=hasAllW_cons hsh
 obtain rfl:=hasAllW_nil h2
 obtain⟨xs,rfl,h3⟩:=hasW_list h1
 obtain⟨ns,rfl⟩:=items_int h3
 have hlen:ns.length<=n:=by
  unfold OpenLaw.pre at hc
  have h4:(WTm.not (.lt (.lit (.int (n:Int))) (.len (.arg 0)))).holds [] {args:=[.list (ns.map .int)]}=true:=by
   have h4:=(holds_andW hc).1
   rw[hn]at h4
   exact h4
  have h5:=condW_of h4 (w_not (w_lt w_lit (w_len_list (w_arg rfl))))
  rw[Ud]at h5
  refine Ra λq=>?_
  have q':(n:Int)<((ns.length:Nat):Int):=by omega
  first
   | (rw[Uy q']at h5;exact absurd h5 (by decide))
   | (simp at h5;omega)
 cases hwl with
 |cons w1 w2 =>
  cases w2
  cases w1 with
  |list ho hall=>exact⟨_,_,ns,rfl,rfl,ho,QcB ns _ hall,hlen⟩
theorem QhQ(l:OpenLaw)(args:List WData):l.row.toRowW.claim.post args (.bool true) args=true :=
 postW_of (r:=l.row.toRowW) (X:=(true == true))
  (show WShape.has [] (.bool true) .bool=true by first|rfl|decide|simp[WShape.has,WShape.arms,WShape.armsAll])
  (show(WTm.eq .res (.lit (.bool true))).value [] {args:=args,res:=some (.bool true),after:=args}=some (.bool (true == true)) from w_eq_bool (w_res rfl) w_lit) rfl
theorem attach_call{l:OpenLaw}{n:Nat}{q:Program}{loose:List Str}{XP:(Str->Option Value)->Heap->Prop}{YP:World->Heap->Prop}{d:DefRec}(hn:l.most=some n)(hdf:d.params.defaults=[])(call:∀(w:World) (s₀ s₁:Shared) (mg mb:Str->Option Value) (fa:Addr) (o:Obj) (pm cd doc:Value) (a:Addr) (vs:List Value) (ns:List Int),
   Ground q loose [] XP w s₀ mg mb s₁.heap->YP w s₁.heap ->
   s₁.heap.get? fa=some o->o.data=.func (docDef d.name d.params d.body d.scope pm cd doc)->s₁.heap.CodeRec cd d.name->mg d.name=some (.ref fa) ->
   s₁.heap.get? a=some {cls:=.type "list",data:=.seq vs.toArray}->IntsAre vs ns->ns.length<=n->s₁.gens = #[] ->
   codeAny (model l.prog w) callerA (.call (.ref fa) ⟨[.ref a],[]⟩) (λr s'=>r=.ok (.ret (.bool true))/\OldK s₁.heap s'.heap/\s'.os=s₁.os/\AllBare s'.gens) s₁):
  WalkO q loose XP YP l.row.toRowW d [] (λf vs=>PySem.call f vs):=by
 intro w s₀ s₁ mg mb G Y fa o pm cd doc dV kV ho hd hcd hD hmg hg args vals as hpre hlay hrd hwl hlo
 obtain rfl:dV=.none:=Dflts.none hD hdf
 obtain rfl:kV=.none:=Dflts.noKw hD
 obtain⟨a,vs,ns,rfl,rfl,hobj,hints,hlen⟩:=QhP hn hpre hwl
 refine enter_call (RZ (call w s₀ s₁ mg mb fa o pm cd doc a vs ns G Y ho (fd_plain hd) hcd hmg hobj hints hlen hg) λr s' hq=>?_)
 obtain⟨rfl,h2,h3,h4⟩:=hq
 exact⟨.inl ⟨.bool true,.bool true,[],rfl,λ_=>rfl,.bool true,QhQ l _,λ_=>⟨List.Pairwise.nil,λ_ hm=>(nomatch hm)⟩⟩,h2,h3,h4⟩
section
variable{prog:Program}{w:World}{A:Around}{E:Value->Shared->Prop}{s:Shared}{K:Frag}
end
end Att
namespace L2
open PySem PySem.Spec PyProof.Rows
section
theorem QeP:∀{vs:List Value}{ns:List Int},IntsAre vs ns->Vals (ns.map V.int) vs
 |_,_,.nil=>.nil
 |_,_,.cons n t h=>.cons ⟨t,rfl⟩ (QeP h)
def Only(H:Hp):Prop:=∀b,H b=none\/∃o xs,H b=some (.frz o (.lst xs))
theorem Qjv{P:Program}{w:World}{K:Frag}{mg mb:Str->Option Value}{CX:CXT}{k:Nat}{fa a:Addr}{fd:FuncData}{x:Str}{sp:Sp}{s₁:Shared}{vs:List Value}{ns:List Int}(KX:K.In s₁.heap)(hns:s₁.heap.Ns mainGlobals mg)(hb:s₁.heap.Ns builtinsNs mb)(hbb:∀x:Str,x ≠ "__name__" -> mb x=bootBuiltins x)(hlim:s₁.heap.NoLimit)(hg:s₁.gens = #[])(ha:s₁.heap.get? a=some {cls:=.type "list",data:=.seq vs.toArray})(hi:IntsAre vs ns)(hl:ns.length<=sizeLine)(hr:Room k callerA)(F:∀base:Heap,K.In base->base.Ns mainGlobals mg->FnOk P w K mg base CX k fa fd [x] sp)(hbind:∀(s:Shared) (u:Value),BindsTo s fd ⟨[u],[]⟩ [(x,u)])(hsp:∀H:Hp,Only H->SqL K H a (ns.map V.int)->sp [.ref a] H (λv _=>v=.bl true) λ_ _ _=>False)(hCX:∀H e s',CX [] H s₁ (λ_ _ _=>False) e s'->False):
  codeAny (model P w) callerA (.call (.ref fa) ⟨[.ref a],[]⟩) (λr s'=>r=.ok (.ret (.bool true))/\OldK s₁.heap s'.heap/\s'.os=s₁.os/\AllBare s'.gens) s₁:=by
 have rv:=QeP hi
 have lenV:=hi.length
 -- from an abstract heap in which nothing but the script may be tracked
 have core:∀H:Hp,Only H->SqL K H a (ns.map V.int)->HOk P w H s₁.heap->(∀b,H b≠none->b=a)->(H a≠none->K.lookup a=none) ->
   codeAny (model P w) callerA (.call (.ref fa) ⟨[.ref a],[]⟩) (λr s'=>r=.ok (.ret (.bool true))/\OldK s₁.heap s'.heap/\s'.os=s₁.os/\AllBare s'.gens) s₁:=by
  intro H hO hS hok hA hK
  have base_of:∀{b:Addr}{o:Obj},s₁.heap.get? b=some o->H b=none->(hidT s₁.heap H).get? b=some o:=λe n=>Qjk e n
  have noA:∀{b:Addr}{o:Obj}{es:Array DictEntry}{ep:Nat},s₁.heap.get? b=some o->o.data=.dict es ep->H b=none:=λ{b o es ep} e d=>by
   cases q:H b with
   |none=>rfl
   |some u =>
    have e':b=a:=hA b (by rw[q];simp)
    subst e'
    rw[ha]at e;cases e
    have d':Data.seq vs.toArray _=Data.dict es ep:=d
    cases d'
  have nsK:∀{b:Addr}{m:Str->Option Value},s₁.heap.Ns b m->(hidT s₁.heap H).Ns b m:=λ{b m} ⟨o,es,ep,e,d,r⟩=>⟨o,es,ep,base_of e (noA e d),d,r⟩
  have hKb:K.In (hidT s₁.heap H):=λb o e=>base_of (KX b o e) (by
   cases q:H b with
   |none=>rfl
   |some u =>
    have e':b=a:=hA b (by rw[q];simp)
    subst e'
    rw[hK (by rw[q];simp)]at e;cases e)
  have hM:Mod K mg (hidT s₁.heap H):=⟨hKb,nsK hns,⟨mb,nsK hb,hbb⟩,let ⟨mc,h1,h2⟩:=hlim;⟨mc,nsK h1,h2⟩⟩
  have e0:Env0 P w K mg (hidT s₁.heap H) callerA [] s₁ H:=⟨rfl,hM,λb o e=>QkQ e,Nat.le_of_eq (Qhw _ _),trivial,λb hb=>absurd (show b∈([]:List Addr) from hb) (by simp),hok,.of_eq hg⟩
  refine RZ ((F _ hKb (nsK hns)).run callerA [] s₁ H ⟨[.ref a],[]⟩ [.ref a] [.ref a] _ _ hr e0 (hbind s₁ (.ref a)) (.cons rfl .nil) (hsp H hO hS)) λr s' h=>?_
  cases r with
  |error e=>exact(hCX H e s' h).elim
  |ok fl =>
   cases fl with
   |next=>exact False.elim h
   |brk=>exact False.elim h
   |cont=>exact False.elim h
   |ret u =>
    obtain⟨v,H',os,bare,un,hok',r',q⟩:=h
    have q':v=.bl true:=q
    subst q'
    obtain rfl:u=Value.bool true:=r'
    refine⟨rfl,OldK.of_keep λb o e=>?_,os,bare⟩
    cases q:H b with
    |none=>exact un.keep b o e q (by intro z;exact absurd (show b∈([]:List Addr) from z) (by simp)) (by simp)
    |some u =>
     rcases hO b with z|⟨ob,xs,z⟩
     ·rw[q]at z;cases z
     ·have z2:=un.frzs b ob _ z
      obtain⟨e1,_⟩:=hok b _ z
      obtain⟨e2,_⟩:=hok' b _ z2
      rw[e]at e1;cases e1
      exact e2
 cases hk:K.lookup a with
 |some o =>
  -- the script is one of the module's own objects
  have e:=KX a o hk
  rw[ha]at e
  cases e
  refine core (λ_=>none) (λ_=>.inl rfl) (.inr ⟨_,vs.toArray,_,hk,rfl,rfl,rfl,by rw[Ue,lenV];exact hl,by simpa using rv⟩) (λb u z=>by have z':(none:Option HO)=some u:=z;cases z') (λb z=>absurd rfl z) λz=>absurd rfl z
 |none =>
  refine core (λb=>if b=a then some (.frz {cls:=.type "list",data:=.seq vs.toArray} (.lst (ns.map V.int))) else none) (λb=>?_) (.inl (.inr ⟨{cls:=.type "list",data:=.seq vs.toArray},Uh rfl⟩)) (λb u z=>?_) (λb z=>?_) λ_=>hk
  ·by_cases hb:b=a
   ·exact .inr ⟨_,_,Uh hb⟩
   ·exact .inl (Um hb)
  ·by_cases hb:b=a
   ·have z':=(Uh hb).symm.trans z
    cases z'
    subst hb
    exact⟨ha,by rw[Ud];exact hl,vs,_,rv,ha⟩
   ·have z':=(Um hb).symm.trans z
    cases z'
  ·by_cases hb:b=a
   ·exact hb
   ·exact absurd (Um hb) z
end
section
theorem walk_of{l:PySem.W.OpenLaw}{n k:Nat}{q:Program}{loose:List Str}{XP:(Str->Option Value)->Heap->Prop}{YP:World->Heap->Prop}{d:DefRec}{K:Params->Frag}{CX:World->CXT}{sp:World->Sp}{x:Str}(hn:l.most=some n)(hn2:n<=sizeLine)(hdf:d.params.defaults=[])(hr:Room k callerA)(hY:∀(w:World) (h:Heap),YP w h->(K w.params).In h)(F:∀(w:World) (mg:Str->Option Value) (fa:Addr) (h:Heap),(K w.params).In h->h.Ns mainGlobals mg->mg d.name=some (.ref fa) ->
   ∃fd:FuncData,(∀(s:Shared) (u:Value),BindsTo s fd ⟨[u],[]⟩ [(x,u)]) /\
    ∀base:Heap,(K w.params).In base->base.Ns mainGlobals mg->FnOk l.prog w (K w.params) mg base (CX w) k fa fd [x] (sp w))(hsp:∀(w:World) (H:Hp) (a:Addr) (ns:List Int),ns.length<=n->Only H->SqL (K w.params) H a (ns.map V.int)->sp w [.ref a] H (λv _=>v=.bl true) λ_ _ _=>False)(hCX:∀(w:World) (H:Hp) (s:Shared) (e:Value) (s':Shared),CX w [] H s (λ_ _ _=>False) e s'->False):
  PySem.W.WalkO q loose XP YP l.row.toRowW d [] (λf vs=>PySem.call f vs):=by
 refine Att.attach_call hn hdf λw s₀ s₁ mg mb fa o pm cd doc a vs ns G Y ho hd hcd hmg hobj hints hlen hg=>?_
 have KX:=hY w _ Y
 obtain⟨fd,hb,hF⟩:=F w mg fa _ KX G.T.g hmg
 exact Qjv KX G.T.g G.T.b G.T.builtins G.T.nolimit hg hobj hints (Uw hlen hn2) hr hF hb (λH hO hS=>hsp w H a ns hlen hO hS) λH e s'=>hCX w H s₁ e s'
end
section
noncomputable def Qld(s:Stmt)(j:Nat):Stmt:=match s with
 |.ClassDef _ _ _ body _ _ _ _ _ _ _=>body.getD j (.Pass ⟨0,0,0,0⟩)
 |_=>.Pass ⟨0,0,0,0⟩
noncomputable def Qae(s:Stmt):Arguments:=match s with
 |.FunctionDef _ a _ _ _ _ _ _ _ _=>a
 |_=>{posonlyargs:=[],args:=[],vararg:=none,kwonlyargs:=[],kw_defaults:=[],kwarg:=none,defaults:=[]}
noncomputable def Y3(s:Stmt):List Stmt:=match s with
 |.FunctionDef _ _ b _ _ _ _ _ _ _=>b
 |_=>[]
noncomputable def Qi(s:Stmt):Scope:=match s with
 |.FunctionDef _ _ _ _ _ _ sc _ _ _=>sc
 |_=>{kind:=.function,names:=[],isGenerator:=false,isCoroutine:=false}
noncomputable abbrev CX0:CXT:=λ_ _ _ _ _ _=>False
structure Fun(K:Frag)(x qual:Str)(st:Stmt)(f:Addr)(fd:FuncData):Prop where
 ex:∃(oc:Value)(od:Option Addr)(kV doc pm:Value)(an:Option Addr)(cdv ct:Value)(osl:Array (Option Value)),
  fd=fnOf x qual (Qae st) (Y3 st) (Qi st) .none kV doc pm an cdv ct/\K.lookup f=some ⟨oc,od,.func fd,osl⟩/\codeIn K cdv qual=true
 kp:keepIn K (.ref f)=true
section
variable{P:Program}{w:World}{K:Frag}{mg:Str->Option Value}{base:Heap}
theorem Fun.ok{x qual:Str}{st:Stmt}{f:Addr}{fd:FuncData}{N ps:List Str}{k:Nat}{sp:Sp}(F:Fun K x qual st f fd)(S:FnScope N ps (Qi st))(len:∀vs H Q E,sp vs H Q E->vs.length=ps.length)(hbody:∀(cdv:Value) (A:Around) (outer:List Env) (s:Shared) (H:Hp) (vs:List V) (Q:VK) (E:XK),Room k (A.deeper (envOfC qual (Qi st) s.heap.objs.size f cdv))->sp vs H Q E ->
   ∃t,PSs (cxOf CX0 P w K mg base N qual (Qi st) f cdv A outer s H E).nox (Y3 st) t/\t {nx:=λ_ H'=>Q .non H',rt:=Q} (start N vs) H):FnOk P w K mg base CX0 (k+1) f fd ps sp:=by
 obtain⟨oc,od,kV,doc,pm,an,cdv,ct,osl,rfl,lk,hcd⟩:=F.ex
 refine QmC lk hcd S len λA outer s H vs Q E hr hsp=>?_
 obtain⟨t,h,q⟩:=hbody cdv A outer s H vs Q E hr hsp
 exact⟨t,h.nox,q⟩
theorem Fun.binds{x qual:Str}{st:Stmt}{f:Addr}{fd:FuncData}{ps:List Str}(F:Fun K x qual st f fd)(h:∀(kV doc pm:Value) (an:Option Addr) (cdv ct:Value) (us:List Value),us.length=ps.length->bindArgs (fnOf x qual (Qae st) (Y3 st) (Qi st) .none kV doc pm an cdv ct) ⟨us,[]⟩=pure (ps.zip us)):Binds K fd ps []:=by
 obtain⟨oc,od,kV,doc,pm,an,cdv,ct,osl,rfl,lk,hcd⟩:=F.ex
 exact .all (h kV doc pm an cdv ct)
theorem Qkp{x qual:Str}{st:Stmt}{f:Addr}{oc:Value}{od an:Option Addr}{osl:Array (Option Value)}{kV doc pm cdv ct:Value}(l:K.lookup f=some ⟨oc,od,.func (fnOf x qual (Qae st) (Y3 st) (Qi st) .none kV doc pm an cdv ct),osl⟩)(c:codeIn K cdv qual=true)(k:keepIn K (.ref f)=true):Fun K x qual st f (fnOf x qual (Qae st) (Y3 st) (Qi st) .none kV doc pm an cdv ct):=⟨⟨oc,od,kV,doc,pm,an,cdv,ct,osl,rfl,l,c⟩,k⟩
end
section
variable{X:Cx}
end
def Same(H H':Hp):Prop:=∀b o,H b=some o->H' b=some o
theorem Same.refl(H:Hp):Same H H:=λ_ _ h=>h
theorem Same.trans{H H1 H2:Hp}(a:Same H H1)(b:Same H1 H2):Same H H2:=λc o h=>b c o (a c o h)
theorem Same.free{H H':Hp}(e:Same H H'){l:Addr}(h:H' l=Option.none):H l=Option.none:=by
 cases q:H l with
 |none=>rfl
 |some o =>
  rw[e l o q]at h
  cases h
theorem Same.seq{K:Frag}{H H':Hp}{a:Addr}{xs:List V}(e:Same H H')(h:SqL K H a xs):SqL K H' a xs:=by
 rcases h with(h|⟨o,h⟩)|h
 ·exact .inl (.inl (e _ _ h))
 ·exact .inl (.inr ⟨o,e _ _ h⟩)
 ·exact .inr h
end
end L2
set_option maxHeartbeats 4000000
section
namespace HT
open PySem PySem.Spec PyProof.Rows
set_option maxRecDepth 100000
theorem Qca:fillsNumberSlot (.type "tuple") "mul" = pure false :=
 PySem.fillsNumberSlot_seq (id:="tuple.__mul__") (r:=some (.builtin "tuple.__rmul__")) TM.lookup (by decide +kernel) F.slot_tuple_rmul.lookup (by decide +kernel)
theorem QeQ:seqRepeat? (.type "tuple")=pure (some (.builtin "tuple.__mul__")):=by
 unfold seqRepeat?
 rw[PySem.seqSlot_of (T:="tuple") (name:="__mul__") (id:="tuple.__mul__") TM.lookup (by decide +kernel),PySem.seqSlot_of (T:="tuple") (name:="__rmul__") (id:="tuple.__rmul__") F.slot_tuple_rmul.lookup (by decide +kernel)]
 rfl
theorem Qda(a:Int)(t:Tok)(l:Addr)(items:Array Value)(n:Nat)(dd:Option Addr)(sl):
  Meets (Builtin.«int.__rmul__» ⟨[.int a t,.ref l],[]⟩) (λ_ R s=>s.heap.get? l=some {cls:=.type "tuple",dict:=dd,data:=.seq items n,slots:=sl}/\R (.ok (.ret Value.notImplemented)) s) :=
 .of_wp λprog w A R s h=>by obtain⟨hp,g,d,tk,os⟩:=s;obtain⟨hl,h⟩:=h;wp_walk;exact⟨_,rfl,h⟩
theorem QgW(l:Addr)(items:Array Value)(n:Nat)(dd:Option Addr)(sl)(k:Int)(t:Tok)(hi:¬items.isEmpty=true)(h1:¬(k == 1)=true)(h0:0<k)(hk:k<2^63)(hz:items.size*k.toNat<=sizeLine):
  Meets (Builtin.«tuple.__mul__» ⟨[.ref l,.int k t],[]⟩) (λ_ R s=>s.heap.get? l=some {cls:=.type "tuple",dict:=dd,data:=.seq items n,slots:=sl}/\R (.ok (.ret (Value.ref s.heap.objs.size))) {s with heap:=s.heap.push {cls:=Value.type "tuple",data:=Data.seq (List.foldl (λx1 x2=>x1++x2) #[] (List.replicate k.toNat items))},toks:=s.toks}) :=
 .of_wp λprog w A R s h=>by
  obtain⟨hp,g,d,tk,os⟩:=s;obtain⟨hl,h⟩:=h
  have f1:=Rb
  have hz':(items.size:Int)*k<=(sizeLine:Int):=by
   have e:((items.size*k.toNat:Nat):Int)=(items.size:Int)*k:=by rw[Int.natCast_mul,Int.toNat_of_nonneg (by omega)]
   omega
  have hl':((sizeLine:Nat):Int)<=(2^63-1) / 8:=by decide
  have hi':items.isEmpty=false:=by cases h:items.isEmpty <;> simp_all
  have h1':(k == 1)=false:=by cases h:(k == 1) <;> simp_all
  have hc0:¬(decide (k < -2^63) || decide (k>=2^63))=true:=by rw[Uo (p:=k < -2^63) (by omega),Uo (p:=k>=2^63) (by omega)];exact Uc
  have hc1:¬(items.isEmpty || k == 1)=true:=by rw[hi',h1'];exact Uc
  have hc2:¬(decide (k<=0) || items.isEmpty)=true:=by rw[hi',Uo (p:=k<=0) (by omega)];exact Uc
  have hc3:¬(items.size:Int)*k > (2^63-1) / 8:=by omega
  have hc4:¬Builtin.Tuple.tupleTooMany (items.size*k)=true:=by unfold Builtin.Tuple.tupleTooMany;rw[Uo (p:=(items.size:Int)*k > (sizeLine:Int)) (by omega)];exact Uc
  have hsz:(List.foldl (λx1 x2=>x1++x2) #[] (List.replicate k.toNat items)).size<=sizeLine:=by
   have e:∀(m:Nat)(a:Array Value),(List.foldl (λx1 x2=>x1++x2) a (List.replicate m items)).size=a.size+items.size*m:=λm=>by
    induction m with
    |zero=>intro a;simp
    |succ m ih=>intro a;rw[UM,List.foldl_cons,ih,Array.size_append,Nat.mul_succ];omega
   rw[e];simp;exact hz
  wp_walk
  refine Wb (Uo hc0) ?_
  wp_walk using wpAny_loadPart' hl
  refine Wb (Uo hc3) ?_
  wp_walk
  exact⟨_,rfl,h⟩
theorem QgX(l:Addr)(items:Array Value)(n:Nat)(dd:Option Addr)(sl)(k:Int)(t:Tok)(h1:(items.isEmpty || k == 1)=true)(h0:0<=k)(hk:k<2^63):
  Meets (Builtin.«tuple.__mul__» ⟨[.ref l,.int k t],[]⟩) (λ_ R s=>s.heap.get? l=some {cls:=.type "tuple",dict:=dd,data:=.seq items n,slots:=sl}/\R (.ok (.ret (Value.ref l))) {s with heap:=s.heap,toks:=s.toks}) :=
 .of_wp λprog w A R s h=>by
  obtain⟨hp,g,d,tk,os⟩:=s;obtain⟨hl,h⟩:=h
  have f1:=Rb
  have hc0:¬(decide (k < -2^63) || decide (k>=2^63))=true:=by rw[Uo (p:=k < -2^63) (by omega),Uo (p:=k>=2^63) (by omega)];exact Uc
  wp_walk
  refine Wb (Uo hc0) ?_
  wp_walk using wpAny_loadPart' hl
  exact⟨_,rfl,h⟩
theorem QgY(l:Addr)(items:Array Value)(n:Nat)(dd:Option Addr)(sl)(t:Tok)(hi:¬items.isEmpty=true):
  Meets (Builtin.«tuple.__mul__» ⟨[.ref l,.int 0 t],[]⟩) (λ_ R s=>s.heap.get? l=some {cls:=.type "tuple",dict:=dd,data:=.seq items n,slots:=sl}/\R (.ok (.ret (Value.ref s.heap.objs.size))) {s with heap:=s.heap.push {cls:=Value.type "tuple",data:=Data.seq #[]},toks:=s.toks}) :=
 .of_wp λprog w A R s h=>by
  obtain⟨hp,g,d,tk,os⟩:=s;obtain⟨hl,h⟩:=h
  have f1:=Rb
  have hi':items.isEmpty=false:=by cases h:items.isEmpty <;> simp_all
  have hc1:¬(items.isEmpty || (0:Int) == 1)=true:=by rw[hi'];exact Uc
  wp_walk using wpAny_loadPart' hl
  exact⟨_,rfl,h⟩
section
variable{prog:Program}{w:World}{A:Around}{E:Value->Shared->Prop}{s:Shared}
theorem rep_tup{l:Addr}{its:List Value}{k:Int}{t:Tok}{Q:Value->Shared->Prop}(ht:IsTup s.heap l its.toArray)(h0:0<=k)(hk:k<2^63)(hz:its.length*k.toNat<=sizeLine)(h1:its=[]\/k=1->Q (.ref l) s)(h2:its≠[]->k≠1->Q (.ref s.heap.objs.size) {s with heap:=s.heap.push {cls:=.type "tuple",data:=.seq (List.replicate k.toNat its).flatten.toArray} }):wpAny (model prog w) A (binaryOp .Mult (.ref l) (.int k t)) Q E s:=by
 obtain⟨⟨cls,dd,data,sl⟩,ho,hc,n,hd⟩:=id ht
 simp only at hc hd
 subst hc hd
 refine wpAny_binaryOp_repeat_ref (T:="tuple") (U:="int") (by decide) ⟨_,ho,rfl⟩ (λs'=>typeIs_int s' k t) Qca F.fills_int_mul F.slot_int_rmul QeQ F.slot_int_index.lookup
  (T0 F.slot_int_rmul (typeIs_int s k t) F.entry_int_rmul (F.args_int_rmul_2 _ _) (Qda k t l its.toArray n dd sl) ⟨ho,rfl,⟨_,ho,rfl⟩,?_⟩)
 by_cases hc:its=[]\/k=1
 ·refine T0 TM ⟨_,ho,rfl⟩ RL (RE _ _) (QgX l its.toArray n dd sl k t ?_ h0 hk) ⟨ho,h1 hc⟩
  rcases hc with rfl|rfl
  ·rfl
  ·simp
 ·have hi:its≠[]:=λz=>hc (.inl z)
  have h3:k≠1:=λz=>hc (.inr z)
  have hia:¬its.toArray.isEmpty=true:=by simpa using hi
  have f0:∀m:Nat,List.foldl (λx1 x2=>x1++x2) #[] (List.replicate m its.toArray)=(List.replicate m its).flatten.toArray:=λm=>by
   have:=L2.foldl_rep its m []
   rw[List.nil_append]at this
   exact this
  by_cases hk0:k=0
  ·subst hk0
   exact T0 TM ⟨_,ho,rfl⟩ RL (RE _ _) (QgY l its.toArray n dd sl t hia) ⟨ho,h2 hi h3⟩
  ·refine T0 TM ⟨_,ho,rfl⟩ RL (RE _ _) (QgW l its.toArray n dd sl k t hia (by simpa using h3) (by omega) hk (by rw[Ue];exact hz)) ⟨ho,?_⟩
   rw[f0]
   exact h2 hi h3
end
end HT
namespace L2
open PySem PySem.Spec PyProof.Rows
section
variable{X:Cx}
noncomputable def QmL(K:Frag):R2:=λx y H Q=>∃a k xs,x=.ref a/\y=.int k/\SqT K H a xs/\0<=k/\k<2^63/\xs.length*k.toNat<=sizeLine /\
 (xs=[]\/k=1->Q (.ref a) H)/\(xs≠[]->k≠1->∀p,H p=none->Q (.ref p) (upd H p (.tup (List.replicate k.toNat xs).flatten)))
theorem Qle:OpR X (binaryOp .Mult) (QmL X.K):=by
 intro pins s σ H x y v u Q I rx ry h
 obtain⟨a,k,xs,rfl,rfl,ha,h0,hk,hz,q1,q2⟩:=h
 cases rx
 obtain⟨t,rfl⟩:=ry
 obtain⟨its,r1,p1,_⟩:=I.tuple ha
 refine HT.rep_tup p1 h0 hk (by rw[<-r1.length];exact hz) (λz=>⟨.ref a,H,I,rfl,q1 (z.imp r1.nil_iff.mp id)⟩) (λz z2=>?_)
 refine⟨.ref s.heap.objs.size,_,I.laid (t':=s.toks) (o:=.tup (List.replicate k.toNat xs).flatten) (λb ob q=>Ub _ q) (Ul _) ?_,rfl,q2 (λw=>z (r1.nil_iff.mpr w)) z2 _ (I.hok.fresh (Ul _))⟩
 exact⟨by rw[Qlc,Nat.mul_comm];exact hz,_,r1.rep k.toNat,IsTup.new _ _⟩
end
end L2
end
section
namespace HT
open PySem PySem.Spec PyProof.Rows
set_option maxRecDepth 100000
theorem list_extendT(l:Addr)(items:Array Value)(n:Nat)(b:Addr)(items2:Array Value)(n2:Nat)(dd:Option Addr)(sl)(hs0:¬(!items.isEmpty && Builtin.List.listTooLong (items.size+items2.size))=true)(hs1:items.size<=sizeLine)(hs2:items.size+items2.size<=sizeLine+1):
  Meets (Builtin.«list.extend» ⟨[.ref l,.ref b],[]⟩) (λ_ R s=>s.heap.get? l=some {cls:=.type "list",dict:=none,data:=.seq items n,slots:=#[]}/\s.heap.get? b=some {cls:=.type "tuple",dict:=dd,data:=.seq items2 n2,slots:=sl}/\R (.ok (.ret Value.none)) {s with heap:=s.heap.update l (Obj.mapSeq λx=>x++items2),toks:=s.toks}) :=
 .of_wp λprog w A R s h=>by
  obtain⟨hp,g,d,tk,os⟩:=s;obtain⟨hl,hb,h⟩:=h;have f1:=Rb;have f2:=AutoSeq1.sub_tuple_tuple;have f3:=AutoSeq1.sub_list_list;have f4:=AutoSeq1.sub_tuple_list;have f5:=AutoSeq1.sub_list_tuple;
  have hz':(items++items2).size<=sizeLine+1:=by rw[Array.size_append];exact hs2
  wp_walk using (wpAny_updateSeq hl rfl (hz:=hs1) (_hz':=hz')),wpAny_loadPart' hl,wpAny_loadPart' hb
  exact⟨_,rfl,h⟩
end HT
namespace L2
open PySem PySem.Spec PyProof.Rows
section
variable{X:Cx}
noncomputable def Qgc(K:Frag):V->List V->Hp->VK->Prop:=λx vs H Q=>∃l b xs zs,x=.ref l/\vs=[.ref b]/\H l=some (.lst xs)/\SqT K H b zs/\xs.length+zs.length<=sizeLine/\Q .non (upd H l (.lst (xs++zs)))
theorem QgZ:MtM X "list.extend" (Qgc X.K):=by
 intro pins s σ H x vs v us Q I rx rv h
 obtain⟨l,b,xs,zs,rfl,rfl,hH,hB,hz,q⟩:=h
 cases rx
 obtain⟨u,rfl,ru⟩:=rv.one
 cases ru
 obtain⟨z,its,n,r,hl,e⟩:=I.lstM hH
 obtain⟨its2,r2,p2,_⟩:=I.tuple hB
 obtain⟨⟨cls,dd,data,sl⟩,ho,hc,n2,hd⟩:=id p2
 simp only at hc hd
 subst hc hd
 have hl2:=r2.length
 have hsz:its.toArray.size+its2.toArray.size<=sizeLine:=by rw[Ue,Ue];omega
 have hlong:¬(!its.toArray.isEmpty && Builtin.List.listTooLong (its.toArray.size+its2.toArray.size))=true:=by
  rw[Qgb hsz,TL]
  exact Uc
 refine T0 F.slot_list_extend ⟨_,e,rfl⟩ F.entry_list_extend (F.args_list_extend_2 _ _)
  (HT.list_extendT l its.toArray n b its2.toArray n2 dd sl hlong (by rw[Ue];omega) (by omega)) ⟨e,ho,?_⟩
 refine⟨.non,_,I.lset (its':=its++its2) hH e (by simp) (r.append r2) ?_,rfl,q⟩
 rw[Ut]
 omega
theorem Qg0:MtM X "list.extend" (λx vs H Q=>QhN x vs H Q\/Qgc X.K x vs H Q):=by
 intro pins s σ H x vs v us Q I rx rv h
 rcases h with h|h
 ·exact QhO pins s σ H x vs v us Q I rx rv h
 ·exact QgZ pins s σ H x vs v us Q I rx rv h
end
end L2
end
namespace L3
open PySem
noncomputable abbrev Xc:=Nat×Option Nat
inductive D where
 |non|bl (b:Bool)|int (i:Int)|str (s:Str)|ref (n:Nat)|tup (ds:List D)|fl (ds:List D)
inductive GO where
 |lst (ds:List D)|ins (c:Nat) (fs:List (Str×D))|dct (kvs:List (Sum Int Str×D))|exc (x:Xc)
noncomputable abbrev G:=List GO
noncomputable abbrev S3:=List (Option D)
inductive Res(α:Type) where
 |ok (a:α) (g:G)|raise (x:Xc) (g:G)|stuck
noncomputable def Res.bind{α β:Type}:Res α->(α->G->Res β)->Res β
 |.ok a g,k=>k a g
 |.raise e g,_=>.raise e g
 |.stuck,_=>.stuck
inductive Out where
 |nx (σ:S3) (g:G)|rt (d:D) (g:G)|bk (σ:S3) (g:G)|ct (σ:S3) (g:G)|raise (x:Xc) (σ:S3) (g:G)|stuck
noncomputable abbrev ME:=S3->G->Res D
noncomputable abbrev MT:=S3->G->Res Bool
noncomputable abbrev MA:=S3->G->Res (List D)
noncomputable abbrev MS:=S3->G->Out
noncomputable abbrev MF:=List D->G->Res D
theorem Res.bind_ok{α β:Type}(a:α)(g:G)(k:α->G->Res β):(Res.ok a g).bind k=k a g:=rfl
noncomputable def SZ:Nat:=1000000
noncomputable def mVar(i:Nat):ME:=λσ g=>match σ[i]? with
 |some (some d)=>.ok d g
 |_=>.stuck
noncomputable def mLit(d:D):ME:=λ_ g=>.ok d g
noncomputable def mOp1(f:D->G->Res D)(a:ME):ME:=λσ g=>(a σ g).bind f
noncomputable def mOp2(f:D->D->G->Res D)(a b:ME):ME:=λσ g=>(a σ g).bind λx g1=>(b σ g1).bind λy g2=>f x y g2
noncomputable def mNil:MA:=λ_ g=>.ok [] g
noncomputable def Qa(a:ME)(r:MA):MA:=λσ g=>(a σ g).bind λx g1=>(r σ g1).bind λxs g2=>.ok (x::xs) g2
noncomputable def mOpA(f:List D->G->Res D)(a:MA):ME:=λσ g=>(a σ g).bind f
noncomputable def Qj(a:ME):MT:=λσ g=>(a σ g).bind λd g1=>match d with
 |.bl b=>.ok b g1
 |_=>.stuck
noncomputable def Ys(a:MT):MT:=λσ g=>(a σ g).bind λb g1=>.ok (!b) g1
noncomputable def QbN(a b:MT):MT:=λσ g=>(a σ g).bind λc g1=>if c=true then b σ g1 else .ok false g1
noncomputable def mOrT(a b:MT):MT:=λσ g=>(a σ g).bind λc g1=>if c=true then .ok true g1 else b σ g1
noncomputable def mNot(a:ME):ME:=λσ g=>(a σ g).bind λd g1=>match d with
 |.bl b=>.ok (.bl (!b)) g1
 |_=>.stuck
noncomputable def mAnd(a b:ME):ME:=λσ g=>(a σ g).bind λd g1=>match d with
 |.bl c=>if c=true then b σ g1 else .ok (.bl false) g1
 |_=>.stuck
noncomputable def mIfE(c:MT)(a b:ME):ME:=λσ g=>(c σ g).bind λt g1=>if t=true then a σ g1 else b σ g1
noncomputable def Qdr(f f':D->D->G->Res D)(a b c:ME):ME:=λσ g=>(a σ g).bind λx g1=>(b σ g1).bind λy g2=>(f x y g2).bind λz g3=>match z with
 |.bl true=>(c σ g3).bind λw g4=>f' y w g4
 |.bl false=>.ok (.bl false) g3
 |_=>.stuck
noncomputable def QA:MS:=λσ g=>.nx σ g
noncomputable def mSeq(a b:MS):MS:=λσ g=>match a σ g with
 |.nx σ' g'=>b σ' g'
 |o=>o
noncomputable def YJ(a:ME):MS:=λσ g=>match a σ g with
 |.ok _ g'=>.nx σ g'
 |.raise e g'=>.raise e σ g'
 |.stuck=>.stuck
noncomputable def mRet(a:ME):MS:=λσ g=>match a σ g with
 |.ok d g'=>.rt d g'
 |.raise e g'=>.raise e σ g'
 |.stuck=>.stuck
noncomputable def QnW:MS:=λ_ g=>.rt .non g
noncomputable def mIf(c:MT)(a b:MS):MS:=λσ g=>match c σ g with
 |.ok t g'=>if t=true then a σ g' else b σ g'
 |.raise e g'=>.raise e σ g'
 |.stuck=>.stuck
noncomputable def Zv(c:Nat)(a:MA):MS:=λσ g=>match a σ g with
 |.ok ds g'=>if ds.length<=SZ then .raise (c,none) σ g' else .stuck
 |.raise e g'=>.raise e σ g'
 |.stuck=>.stuck
structure MH where
 cs:List Nat
 no:List Nat
 nm:Option Nat
 suite:MS
noncomputable def Qkq(i:Nat):Out->Out
 |.nx σ g=>.nx (σ.set i none) g
 |.rt d g=>.rt d g
 |_=>.stuck
noncomputable def runH:List MH->Xc->S3->G->Out
 |[],x,σ,g=>.raise x σ g
 |h::r,x,σ,g=>if x.1∈h.cs then (match h.nm with
  |none=>(match h.suite σ g with
   |.nx σ' g'=>.nx σ' g'
   |.rt d g'=>.rt d g'
   |_=>.stuck)
  |some i=>Qkq i (h.suite (σ.set i (some (.ref g.length))) (g++[.exc x]))) else if x.1∈h.no then runH r x σ g else .stuck
noncomputable def mTry(b:MS)(hs:List MH):MS:=λσ g=>match b σ g with
 |.raise x σ' g'=>runH hs x σ' g'
 |o=>o
noncomputable abbrev MG:=D->S3->Option S3
noncomputable def gSet(i:Nat):MG:=λd σ=>some (σ.set i (some d))
noncomputable def Qg1:List MG->List D->S3->Option S3
 |[],[],σ=>some σ
 |t::ts,d::ds,σ=>(t d σ).bind λσ'=>Qg1 ts ds σ'
 |_,_,_=>none
noncomputable def JO(ts:List MG):MG:=λd σ=>match d with
 |.tup ds=>Qg1 ts ds σ
 |_=>none
noncomputable def mAsg(t:MG)(a:ME):MS:=λσ g=>match a σ g with
 |.ok d g'=>(match t d σ with
  |some σ'=>.nx σ' g'
  |none=>.stuck)
 |.raise e g'=>.raise e σ g'
 |.stuck=>.stuck
structure Src where
 at':G->Nat->Option (Option D)
 top:Nat
noncomputable abbrev MI:=S3->G->Res Src
noncomputable def forL(src:Src)(t:MG)(body:MS):Nat->Nat->S3->G->Out
 |0,_,_,_=>.stuck
 |f+1,i,σ,g=>match src.at' g i with
  |some (some d)=>(match t d σ with
   |some σ1=>(match body σ1 g with
    |.nx σ2 g2=>forL src t body f (i+1) σ2 g2
    |.ct σ2 g2=>forL src t body f (i+1) σ2 g2
    |.bk σ2 g2=>.nx σ2 g2
    |o=>o)
   |none=>.stuck)
  |some none=>.nx σ g
  |none=>.stuck
noncomputable def mFor(it:MI)(t:MG)(body:MS):MS:=λσ g=>match it σ g with
 |.ok src g'=>forL src t body (src.top+1) 0 σ g'
 |.raise e g'=>.raise e σ g'
 |.stuck=>.stuck
noncomputable def ZH(c:MT)(body:MS):Nat->S3->G->Out
 |0,_,_=>.stuck
 |f+1,σ,g=>match c σ g with
  |.ok true g1=>(match body σ g1 with
   |.nx σ2 g2=>ZH c body f σ2 g2
   |.ct σ2 g2=>ZH c body f σ2 g2
   |.bk σ2 g2=>.nx σ2 g2
   |o=>o)
  |.ok false g1=>.nx σ g1
  |.raise e g1=>.raise e σ g1
  |.stuck=>.stuck
open Classical in
noncomputable def Qds(c:MT)(body:MS):MS:=λσ g=>if h:∃f,ZH c body f σ g≠.stuck then ZH c body h.choose σ g else .stuck
noncomputable def Jq(src:Src)(t:MG)(c:MT)(e:ME):Nat->Nat->S3->G->List D->Res (List D)
 |0,_,_,_,_=>.stuck
 |f+1,i,σ,g,acc=>match src.at' g i with
  |some (some d)=>(match t d σ with
   |some σ1=>(match c σ1 g with
    |.ok b g1=>if b=true then (match e σ1 g1 with
     |.ok y g2=>Jq src t c e f (i+1) σ1 g2 (acc++[y])
     |_=>.stuck) else Jq src t c e f (i+1) σ1 g1 acc
    |_=>.stuck)
   |none=>.stuck)
  |some none=>.ok acc g
  |none=>.stuck
noncomputable def capt(n:Nat)(cap:List Nat)(σ:S3):S3:=List.replicate n none++cap.map λi=>(σ[i]?).getD none
noncomputable def newL(ds:List D)(g:G):Res D:=if ds.length<=SZ then .ok (.ref g.length) (g++[.lst ds]) else .stuck
noncomputable def pTup(xs:List D)(g:G):Res D:=if xs.length<=SZ then .ok (.tup xs) g else .stuck
noncomputable def Yc(it:MI)(n:Nat)(cap:List Nat)(t:MG)(c:MT)(e:ME):ME:=λσ g=>match it σ g with
 |.ok src g1=>if src.top<=SZ then (match Jq src t c e (src.top+1) 0 (capt n cap σ) g1 []with
  |.ok ds g2=>.ok (.ref g2.length) (g2++[.lst ds])
  |_=>.stuck) else .stuck
 |_=>.stuck
noncomputable def ZX:MT:=λ_ g=>.ok true g
noncomputable def mDef(k n:Nat)(body:MS):MF:=λds g=>if ds.length=k then (match body (ds.map some++List.replicate n none) g with
 |.nx _ g'=>.ok .non g'
 |.rt d g'=>.ok d g'
 |.raise e _ g'=>.raise e g'
 |_=>.stuck) else .stuck
noncomputable def Qr(f:MF)(a:MA):ME:=λσ g=>(a σ g).bind f
noncomputable def QhR(c:Nat)(f:MF)(a:MA):ME:=λσ g=>(a σ g).bind λxs g1=>(f (.ref g1.length::xs) (g1++[.ins c []])).bind λd g2=>match d with
 |.non=>.ok (.ref g1.length) g2
 |_=>.stuck
noncomputable def Qa9(cs:List Nat)(f:Str)(o:ME):ME:=mOp1 (λx g=>match x with
 |.ref n=>(match g[n]? with
  |some (.ins c fs)=>if c∈cs then (match fs.lookup f with
   |some d=>.ok d g
   |none=>.stuck) else .stuck
  |_=>.stuck)
 |_=>.stuck) o
noncomputable def putG(f:Str)(v:D):List (Str×D)->List (Str×D)
 |[]=>[(f,v)]
 | (g,x)::r=>if g=f then (g,v)::r else (g,x)::putG f v r
noncomputable def Qci(cs:List Nat)(f:Str)(o v:ME):MS:=λσ g=>match v σ g with
 |.ok y g1=>(match o σ g1 with
  |.ok (.ref n) g2=>(match g2[n]? with
   |some (.ins c fs)=>if c∈cs/\fs.length<100 then .nx σ (g2.set n (.ins c (putG f y fs))) else .stuck
   |_=>.stuck)
  |.raise e g'=>.raise e σ g'
  |_=>.stuck)
 |.raise e g'=>.raise e σ g'
 |.stuck=>.stuck
noncomputable def ixD(n:Nat)(i:Int):Option Nat:=if 0<=i then (if i<n then some i.toNat else none) else if -(n:Int)<=i then some (i+n).toNat else none
noncomputable def Jf(o i v:ME):MS:=λσ g=>match v σ g with
 |.ok y g1=>(match o σ g1 with
  |.ok (.ref n) g2=>(match i σ g2 with
   |.ok (.int k) g3=>(match g3[n]? with
    |some (.lst ds)=>(match ixD ds.length k with
     |some j=>.nx σ (g3.set n (.lst (ds.set j y)))
     |none=>.stuck)
    |_=>.stuck)
   |.raise e g'=>.raise e σ g'
   |_=>.stuck)
  |.raise e g'=>.raise e σ g'
  |_=>.stuck)
 |.raise e g'=>.raise e σ g'
 |.stuck=>.stuck
noncomputable def Qdt(d:D)(g:G):Res Src:=match d with
 |.tup ds=>.ok ⟨λ_ i=>some ds[i]?,ds.length⟩ g
 |.fl ds=>.ok ⟨λ_ i=>some ds[i]?,ds.length⟩ g
 |.ref n=>(match g[n]? with
  |some (.lst ds)=>.ok ⟨λg i=>(match g[n]? with|some (.lst es)=>some es[i]? | _=>none),ds.length⟩ g
  |_=>.stuck)
 |_=>.stuck
noncomputable def QX(a:ME):MI:=λσ g=>(a σ g).bind Qdt
noncomputable def Zw(lo:Int)(n:Nat):Src:=⟨λ_ i=>some (if i<n then some (.int (lo+i)) else none),n⟩
def inR(j:Int):Prop:=-(2^62)<=j/\j<2^62
noncomputable instance (j:Int):Decidable (inR j):=inferInstanceAs (Decidable (_/\_))
noncomputable def Zi(a:ME):MI:=λσ g=>(a σ g).bind λd g1=>match d with
 |.int j=>if inR j then .ok (Zw 0 j.toNat) g1 else .stuck
 |_=>.stuck
noncomputable def QK(g:G):D->Option (Bool×List D)
 |.tup ds=>some (false,ds)
 |.fl ds=>some (true,ds)
 |.ref n=>(match g[n]? with
  |some (.lst ds)=>some (true,ds)
  |_=>none)
 |_=>none
noncomputable def Qgd(d1 d2:D)(g:G):Res Src:=match QK g d1,QK g d2 with
 |some (_,xs),some (_,ys)=>.ok ⟨λg i=>(match QK g d1,QK g d2 with
  |some (_,xs),some (_,ys)=>(match xs[i]?,ys[i]? with
   |some x,some y=>some (some (.tup [x,y]))
   |_,_=>some none)
  |_,_=>none),min xs.length ys.length⟩ g
 |_,_=>.stuck
noncomputable def QeR(a b:ME):MI:=λσ g=>(a σ g).bind λx g1=>(b σ g1).bind λy g2=>Qgd x y g2
noncomputable def pAdd(x y:D)(g:G):Res D:=match x,y with
 |.int i,.int j=>.ok (.int (i+j)) g
 |.tup xs,.tup ys=>if xs.length+ys.length<=SZ then .ok (.tup (xs++ys)) g else .stuck
 |.ref n,.ref m=>(match g[n]?,g[m]? with
  |some (.lst xs),some (.lst ys)=>if xs.length+ys.length<=SZ then .ok (.ref g.length) (g++[.lst (xs++ys)]) else .stuck
  |_,_=>.stuck)
 |_,_=>.stuck
noncomputable def pSub(x y:D)(g:G):Res D:=match x,y with
 |.int i,.int j=>.ok (.int (i-j)) g
 |_,_=>.stuck
def cM(i:Int):Prop:=-(2^64)<i/\i<2^64
noncomputable instance (j:Int):Decidable (cM j):=inferInstanceAs (Decidable (_/\_))
noncomputable def pMul(x y:D)(g:G):Res D:=match x,y with
 |.int i,.int j=>if cM i\/cM j then .ok (.int (i*j)) g else .stuck
 |.tup ds,.int k=>if (0<=k/\k<1073741824)/\ds.length*k.toNat<=SZ then .ok (.tup (List.replicate k.toNat ds).flatten) g else .stuck
 |_,_=>.stuck
noncomputable def QR(x y:D)(g:G):Res D:=match x,y with
 |.int i,.int j=>if 0<j/\j<1073741824 then .ok (.int (i/j)) g else .stuck
 |_,_=>.stuck
noncomputable def pMod(x y:D)(g:G):Res D:=match x,y with
 |.int i,.int j=>if 0<j then .ok (.int (i%j)) g else .stuck
 |_,_=>.stuck
noncomputable def pNeg(x:D)(g:G):Res D:=match x with
 |.int i=>.ok (.int (-i)) g
 |_=>.stuck
noncomputable def pCmp(r:Int->Int->Bool)(x y:D)(g:G):Res D:=match x,y with
 |.int i,.int j=>.ok (.bl (r i j)) g
 |_,_=>.stuck
noncomputable def pLt:=pCmp λi j=>decide (i<j)
noncomputable def pLe:=pCmp λi j=>decide (i<=j)
noncomputable def pGt:=pCmp λi j=>decide (j<i)
noncomputable def pGe:=pCmp λi j=>decide (j<=i)
noncomputable def b2I(b:Bool):Int:=if b then 1 else 0
noncomputable def eqGs(eq:D->D->Option Bool):List D->List D->Option Bool
 |[],[]=>some true
 |x::xs,y::ys=>(match eq x y,eqGs eq xs ys with
  |some a,some b=>some (a && b)
  |_,_=>none)
 |_,_=>some false
noncomputable def lstF(g:G)(n:Nat):Option Bool:=match g[n]? with
 |some (.lst _)=>some false
 |_=>none
noncomputable def eqN(g:G):Nat->D->D->Option Bool
 |0,_,_=>none
 |f+1,x,y=>(match x,y with
  |.non,.non=>some true
  |.bl a,.bl b=>some (a == b)
  |.int i,.int j=>some (i == j)
  |.str s,.str t=>some (s == t)
  |.bl a,.int j=>some (b2I a == j)
  |.int i,.bl b=>some (i == b2I b)
  |.tup xs,.tup ys=>eqGs (eqN g f) xs ys
  |.ref n,.ref m=>(match g[n]?,g[m]? with
   |some (.lst xs),some (.lst ys)=>if xs.length=ys.length then eqGs (eqN g f) xs ys else some false
   |_,_=>none)
  |.fl _,_=>none
  |_,.fl _=>none
  |.ref n,_=>lstF g n
  |_,.ref m=>lstF g m
  |_,_=>some false)
noncomputable def pEq(x y:D)(g:G):Res D:=match eqN g 8 x y with
 |some b=>.ok (.bl b) g
 |none=>.stuck
noncomputable def QdS:List D->Option (List Int)
 |[]=>some []
 |.int i::r=>(QdS r).map (i :: ·)
 |_::_=>none
noncomputable def pNe(x y:D)(g:G):Res D:=match eqN g 8 x y with
 |some b=>.ok (.bl (!b)) g
 |none=>.stuck
noncomputable def isNon:D->Bool
 |.non=>true
 |_=>false
noncomputable def pIs(x y:D)(g:G):Res D:=match y with
 |.non=>.ok (.bl (isNon x)) g
 |_=>.stuck
noncomputable def QeS(x y:D)(g:G):Res D:=match y with
 |.non=>.ok (.bl (!isNon x)) g
 |_=>.stuck
noncomputable def atD{α:Type}(xs:List α)(i:Int):Option α:=(ixD xs.length i).bind λj=>xs[j]?
noncomputable def pIx(x y:D)(g:G):Res D:=match x,y with
 |.tup ds,.int i=>(match atD ds i with
  |some d=>.ok d g
  |none=>.stuck)
 |.fl ds,.int i=>(match atD ds i with
  |some d=>.ok d g
  |none=>.stuck)
 |.ref n,.int i=>(match g[n]? with
  |some (.lst ds)=>(match atD ds i with
   |some d=>.ok d g
   |none=>.stuck)
  |_=>.stuck)
 |.str s,.int i=>if s.length<=SZ then (match atD s.cps.toList i with
  |some c=>.ok (.str ⟨#[c]⟩) g
  |none=>.stuck) else .stuck
 |_,_=>.stuck
noncomputable def sIxD(n d:Nat):Option Int->Nat
 |none=>d
 |some v=>if v<0 then (v+(n:Int)).toNat else min v.toNat n
noncomputable def cutD{α:Type}(xs:List α)(lo hi:Option Int):List α:=(xs.drop (sIxD xs.length 0 lo)).take (sIxD xs.length xs.length hi-sIxD xs.length 0 lo)
noncomputable def Qbo(x:D)(lo hi:Option Int)(g:G):Res D:=match x with
 |.tup ds=>.ok (.tup (cutD ds lo hi)) g
 |.fl ds=>.ok (.ref g.length) (g++[.lst (cutD ds lo hi)])
 |.ref n=>(match g[n]? with
  |some (.lst ds)=>.ok (.ref g.length) (g++[.lst (cutD ds lo hi)])
  |_=>.stuck)
 |_=>.stuck
noncomputable abbrev MO:=S3->G->Res (Option Int)
noncomputable def Qy:MO:=λ_ g=>.ok none g
noncomputable def Q0(a:ME):MO:=λσ g=>(a σ g).bind λd g1=>match d with
 |.int i=>.ok (some i) g1
 |_=>.stuck
noncomputable def QH(a:ME)(lo hi:MO):ME:=λσ g=>(a σ g).bind λx g1=>(lo σ g1).bind λl g2=>(hi σ g2).bind λh g3=>Qbo x l h g3
noncomputable def pLen(x:D)(g:G):Res D:=match x with
 |.tup ds=>.ok (.int ds.length) g
 |.fl ds=>.ok (.int ds.length) g
 |.ref n=>(match g[n]? with
  |some (.lst ds)=>.ok (.int ds.length) g
  |_=>.stuck)
 |_=>.stuck
noncomputable def QZ(x:D)(g:G):Res D:=match x with
 |.tup ds=>.ok (.tup ds) g
 |.fl ds=>.ok (.tup ds) g
 |.ref n=>(match g[n]? with
  |some (.lst ds)=>.ok (.tup ds) g
  |_=>.stuck)
 |_=>.stuck
noncomputable def Qcb(x:D)(g:G):Res D:=match x with
 |.tup ds=>.ok (.ref g.length) (g++[.lst ds])
 |.fl ds=>.ok (.ref g.length) (g++[.lst ds])
 |.ref n=>(match g[n]? with
  |some (.lst ds)=>.ok (.ref g.length) (g++[.lst ds])
  |_=>.stuck)
 |_=>.stuck
noncomputable def pInt(x:D)(g:G):Res D:=match x with
 |.int i=>.ok (.int i) g
 |.bl b=>.ok (.int (if b then 1 else 0)) g
 |_=>.stuck
noncomputable def Jr(o e:ME):ME:=λσ g=>(o σ g).bind λx g1=>match x with
 |.ref n=>(match g1[n]? with
  |some (.lst _)=>(e σ g1).bind λy g2=>(match g2[n]? with
   |some (.lst ds)=>if ds.length<SZ then .ok .non (g2.set n (.lst (ds++[y]))) else .stuck
   |_=>.stuck)
  |_=>.stuck)
 |_=>.stuck
inductive Ty where
 |non|bool|int|str|tuple|list|dict
 deriving DecidableEq
noncomputable def Ty.name:Ty->String
 |.non => "NoneType" |.bool => "bool" |.int => "int" |.str => "str" |.tuple => "tuple" |.list => "list" |.dict => "dict"
noncomputable def tyLe(t c:Ty):Bool:=t == c || (t == .bool && c == .int)
noncomputable def tyOf(g:G):D->Option Ty
 |.non=>some .non
 |.bl _=>some .bool
 |.int _=>some .int
 |.str _=>some .str
 |.tup _=>some .tuple
 |.fl _=>some .list
 |.ref n=>(match g[n]? with
  |some (.lst _)=>some .list
  |some (.dct _)=>some .dict
  |_=>none)
noncomputable def ZS(c:Ty)(x:D)(g:G):Res D:=match tyOf g x with
 |some t=>.ok (.bl (tyLe t c)) g
 |none=>.stuck
noncomputable def Za(all cs:List Nat)(x:D)(g:G):Res D:=match x with
 |.ref n=>(match g[n]? with
  |some (.exc e)=>if e.1∈all then .ok (.bl (decide (e.1∈cs))) g else .stuck
  |_=>.stuck)
 |.non=>.ok (.bl false) g
 |_=>.stuck
noncomputable def allB:List D->Option Bool
 |[]=>some true
 |.bl b::r=>(allB r).map (b && ·)
 |_::_=>none
noncomputable def pAll(x:D)(g:G):Res D:=match x with
 |.ref n=>(match g[n]? with
  |some (.lst ds)=>(match allB ds with
   |some b=>.ok (.bl b) g
   |none=>.stuck)
  |_=>.stuck)
 |_=>.stuck
noncomputable def QbO:D->Bool
 |.non=>true
 |.bl _=>true
 |.int _=>true
 |.str _=>true
 |_=>false
noncomputable def eqF(x y:D):Bool:=match x,y with
 |.non,.non=>true
 |.bl a,.bl b=>a == b
 |.int i,.int j=>i == j
 |.str s,.str t=>s == t
 |.bl a,.int j=>b2I a == j
 |.int i,.bl b=>i == b2I b
 |_,_=>false
noncomputable def pIn(neg:Bool)(x y:D)(g:G):Res D:=match QK g y with
 |some (_,ds)=>if QbO x=true/\ds.all QbO=true then .ok (.bl (if neg=true then !(ds.any λd=>eqF d x) else ds.any λd=>eqF d x)) g else .stuck
 |none=>.stuck
end L3
namespace L3
open PySem PySem.Spec PyProof.Rows L2
def SqF(K:Frag)(H:Hp)(a:Addr)(xs:List V):Prop:=(∃o,H a=some (.frz o (.lst xs)))\/SqL K (λ_=>none) a xs
theorem SqF.sq{K:Frag}{H:Hp}{a:Addr}{xs:List V}(h:SqF K H a xs):SqL K H a xs:=by
 rcases h with⟨o,h⟩|(h|⟨o,h⟩)|h
 ·exact .inl (.inr ⟨o,h⟩)
 ·cases h
 ·cases h
 ·exact .inr h
mutual
inductive Den(K:Frag)(μ:List Addr)(H:Hp):V->D->Prop where
 |non:Den K μ H .non .non
 |bl (b:Bool):Den K μ H (.bl b) (.bl b)
 |int (i:Int):Den K μ H (.int i) (.int i)
 |str (x:Str):Den K μ H (.str x) (.str x)
 |ref {n:Nat} {a:Addr} (h:μ[n]?=some a):Den K μ H (.ref a) (.ref n)
 |tup {a:Addr} {vs:List V} {ds:List D} (h:SqT K H a vs) (hs:Dens K μ H vs ds):Den K μ H (.ref a) (.tup ds)
 |fl {a:Addr} {vs:List V} {ds:List D} (h:SqF K H a vs) (hs:Dens K μ H vs ds):Den K μ H (.ref a) (.fl ds)
inductive Dens(K:Frag)(μ:List Addr)(H:Hp):List V->List D->Prop where
 |nil:Dens K μ H [] []
 |cons {v:V} {d:D} {vs:List V} {ds:List D} (h:Den K μ H v d) (hs:Dens K μ H vs ds):Dens K μ H (v::vs) (d::ds)
end
structure Ext(K:Frag)(μ:List Addr)(H:Hp)(μ':List Addr)(H':Hp):Prop where
 pre:∃t,μ'=μ++t
 tup:∀a xs,SqT K H a xs->SqT K H' a xs
 fl:∀a xs,SqF K H a xs->SqF K H' a xs
section
variable{K:Frag}{ca:Nat->Addr}{μ μ' μ'':List Addr}{H H' H'':Hp}
theorem Ext.refl:Ext K μ H μ H:=⟨⟨[],by simp⟩,λ_ _ h=>h,λ_ _ h=>h⟩
theorem Ext.trans(a:Ext K μ H μ' H')(b:Ext K μ' H' μ'' H''):Ext K μ H μ'' H'':=by
 obtain⟨t,e⟩:=a.pre
 obtain⟨u,f⟩:=b.pre
 exact⟨⟨t++u,by rw[f,e,TH]⟩,λx xs h=>b.tup x xs (a.tup x xs h),λx xs h=>b.fl x xs (a.fl x xs h)⟩
theorem Ext.at(e:Ext K μ H μ' H'){n:Nat}{a:Addr}(h:μ[n]?=some a):μ'[n]?=some a:=by
 obtain⟨t,rfl⟩:=e.pre
 have hl:n<μ.length:=(Uf.mp h).1
 rw[UC hl]
 exact h
mutual
theorem Den.mono(e:Ext K μ H μ' H'):∀{v:V}{d:D},Den K μ H v d->Den K μ' H' v d
 |_,_,.non=>.non
 |_,_,.bl b=>.bl b
 |_,_,.int i=>.int i
 |_,_,.str x=>.str x
 |_,_,.ref h=>.ref (e.at h)
 |_,_,.tup h hs=>.tup (e.tup _ _ h) (Dens.mono e hs)
 |_,_,.fl h hs=>.fl (e.fl _ _ h) (Dens.mono e hs)
theorem Dens.mono(e:Ext K μ H μ' H'):∀{vs:List V}{ds:List D},Dens K μ H vs ds->Dens K μ' H' vs ds
 |_,_,.nil=>.nil
 |_,_,.cons h hs=>.cons (Den.mono e h) (Dens.mono e hs)
end
theorem Dens.length:∀{vs:List V}{ds:List D},Dens K μ H vs ds->vs.length=ds.length
 |_,_,.nil=>rfl
 |_,_,.cons _ t=>by rw[UQ,UQ,Dens.length t]
theorem Dens.get:∀{vs:List V}{ds:List D}{i:Nat}{d:D},Dens K μ H vs ds->ds[i]?=some d->∃v,vs[i]?=some v/\Den K μ H v d
 |_,_,_,_,.nil,e=>by simp at e
 |_,_,0,_,.cons r _,e=>by simp at e;subst e;exact⟨_,rfl,r⟩
 |_,_,i+1,x,.cons _ t,e=>by
  obtain⟨u,h1,h2⟩:=Dens.get (i:=i) (d:=x) t (by simpa using e)
  exact⟨u,by simpa using h1,h2⟩
theorem Dens.getV:∀{vs:List V}{ds:List D}{i:Nat}{v:V},Dens K μ H vs ds->vs[i]?=some v->∃d,ds[i]?=some d/\Den K μ H v d
 |_,_,_,_,.nil,e=>by simp at e
 |_,_,0,_,.cons r _,e=>by simp at e;subst e;exact⟨_,rfl,r⟩
 |_,_,i+1,x,.cons _ t,e=>by
  obtain⟨u,h1,h2⟩:=Dens.getV (i:=i) (v:=x) t (by simpa using e)
  exact⟨u,by simpa using h1,h2⟩
theorem Dens.append:∀{vs ws:List V}{ds es:List D},Dens K μ H vs ds->Dens K μ H ws es->Dens K μ H (vs++ws) (ds++es)
 |_,_,_,_,.nil,h=>h
 |_,_,_,_,.cons a b,h=>.cons a (Dens.append b h)
theorem Dens.set{x:V}{u:D}(r:Den K μ H x u):∀{xs:List V}{us:List D}(i:Nat),Dens K μ H xs us->Dens K μ H (xs.set i x) (us.set i u)
 |_,_,_,.nil=>.nil
 |_,_,0,.cons _ t=>.cons r t
 |_,_,i+1,.cons q t=>.cons q (Dens.set r i t)
theorem Dens.take:∀{xs:List V}{us:List D}(n:Nat),Dens K μ H xs us->Dens K μ H (xs.take n) (us.take n)
 |_,_,0,_=>.nil
 |_,_,_+1,.nil=>.nil
 |_,_,n+1,.cons r t=>.cons r (Dens.take n t)
theorem Dens.drop:∀{xs:List V}{us:List D}(n:Nat),Dens K μ H xs us->Dens K μ H (xs.drop n) (us.drop n)
 |_,_,0,r=>r
 |_,_,_+1,.nil=>.nil
 |_,_,n+1,.cons _ t=>Dens.drop n t
theorem Dens.ints(ns:List Int):Dens K μ H (ns.map V.int) (ns.map D.int):=by
 induction ns with
 |nil=>exact .nil
 |cons n r ih=>exact .cons (.int n) ih
noncomputable def FRel(K:Frag)(μ:List Addr)(H:Hp):List (Str×V)->List (Str×D)->Prop:=Paired λp q=>p.1=q.1/\Den K μ H p.2 q.2
noncomputable def KRel(K:Frag)(μ:List Addr)(H:Hp):List (Key×V)->List (Key×D)->Prop:=Paired λp q=>p.1=q.1/\Den K μ H p.2 q.2
def XOb(ca:Nat->Addr)(x:Xc)(o:Obj):Prop:=o.cls=.ref (ca x.1)/\o.dict=none
theorem XOb.map{ca:Nat->Addr}{x:Xc}{o:Obj}(h:XOb ca x o)(f:Array Value->Array Value):XOb ca x (o.mapFields f):=by
 obtain⟨c,d,dt,sl⟩:=o
 cases dt <;> exact h
noncomputable def XO(ca:Nat->Addr)(a:Addr)(x:Xc):HO:=.ext λh=>∃o vs,h.get? a=some o/\XOb ca x o/\o.data=.fields vs
noncomputable def ORep(K:Frag)(ca:Nat->Addr)(μ:List Addr)(H:Hp)(a:Addr):GO->Prop
 |.dct ks=>∃kv,H a=some (.dK kv)/\KRel K μ H kv ks
 |.exc x=>H a=some (XO ca a x)
 |.lst ds=>∃vs,H a=some (.lst vs)/\Dens K μ H vs ds
 |.ins c fs=>∃dx fv,H a=some (.ins (ca c) dx fv)/\FRel K μ H fv fs
structure GRep(K:Frag)(ca:Nat->Addr)(μ:List Addr)(H:Hp)(g:G):Prop where
 len:μ.length=g.length
 nd:μ.Nodup
 obj:∀(n:Nat)(a:Addr)(o:GO),μ[n]?=some a->g[n]?=some o->ORep K ca μ H a o
structure Rep(K:Frag)(ca:Nat->Addr)(μ:List Addr)(σ3:S3)(g:G)(σ:L2.St)(H:Hp):Prop where
 g:GRep K ca μ H g
 len:σ.length=σ3.length
 st:∀(i:Nat)(d:D),σ3[i]?=some (some d)->∃v,σ[i]?=some (some v)/\Den K μ H v d
theorem FRel.mono(e:Ext K μ H μ' H'){fv:List (Str×V)}{fs:List (Str×D)}(h:FRel K μ H fv fs):FRel K μ' H' fv fs:=Paired.imp' (λ_ _ q=>⟨q.1,q.2.mono e⟩) h
theorem KRel.mono(e:Ext K μ H μ' H'){fv:List (Key×V)}{fs:List (Key×D)}(h:KRel K μ H fv fs):KRel K μ' H' fv fs:=Paired.imp' (λ_ _ q=>⟨q.1,q.2.mono e⟩) h
theorem Rep.go{σ3:S3}{g g':G}{σ:L2.St}(r:Rep K ca μ σ3 g σ H)(e:Ext K μ H μ' H')(h:GRep K ca μ' H' g'):Rep K ca μ' σ3 g' σ H' :=
 ⟨h,r.len,λi d z=>by obtain⟨v,h1,h2⟩:=r.st i d z;exact⟨v,h1,h2.mono e⟩⟩
theorem GRep.addr{g:G}(r:GRep K ca μ H g){n:Nat}{o:GO}(h:g[n]?=some o):∃a,μ[n]?=some a/\ORep K ca μ H a o:=by
 have hl:n<g.length:=(Uf.mp h).1
 have hm:n<μ.length:=by rw[r.len];exact hl
 exact⟨μ[n],by simp[hm],r.obj n _ o (by simp[hm]) h⟩
theorem ORep.is{a:Addr}{o:GO}(h:ORep K ca μ H a o):∃u,H a=some u:=by
 cases o with
 |lst ds=>obtain⟨_,h,_⟩:=h;exact⟨_,h⟩
 |ins c fs=>obtain⟨_,_,h,_⟩:=h;exact⟨_,h⟩
 |dct ks=>obtain⟨_,h,_⟩:=h;exact⟨_,h⟩
 |exc x=>exact⟨_,h⟩
theorem GRep.known{g:G}(r:GRep K ca μ H g){a:Addr}(h:a∈μ):∃u,H a=some u:=by
 obtain⟨n,hn⟩:=List.getElem?_of_mem h
 have hl:n<μ.length:=(Uf.mp hn).1
 have hg:n<g.length:=by rw[<-r.len];exact hl
 exact(r.obj n a g[n] hn (by simp[hg])).is
theorem Zy{p:Addr}{o:HO}(hp:H p=none):Ext K μ H μ (upd H p o):=⟨⟨[],by simp⟩,λa xs h=>by
 rcases h with(h|⟨u,h⟩)|h
 ·exact .inl (.inl (by rw[QP (Zg h hp)];exact h))
 ·exact .inl (.inr ⟨u,by rw[QP (Zg h hp)];exact h⟩)
 ·exact .inr h,λa xs h=>by
 rcases h with⟨u,h⟩|h
 ·exact .inl ⟨u,by rw[QP (Zg h hp)];exact h⟩
 ·exact .inr h⟩
theorem ORep.mono{a:Addr}{o:GO}(e:Ext K μ H μ' H')(ha:∀u,H a=some u->H' a=some u)(h:ORep K ca μ H a o):ORep K ca μ' H' a o:=by
 cases o with
 |lst ds=>obtain⟨vs,h,q⟩:=h;exact⟨vs,ha _ h,q.mono e⟩
 |ins c fs=>obtain⟨dx,fv,h,q⟩:=h;exact⟨dx,fv,ha _ h,q.mono e⟩
 |dct ks=>obtain⟨kv,h,q⟩:=h;exact⟨kv,ha _ h,q.mono e⟩
 |exc x=>exact ha _ h
theorem GRep.new{g:G}{p:Addr}{o:HO}(r:GRep K ca μ H g)(hp:H p=none):GRep K ca μ (upd H p o) g :=
 ⟨r.len,r.nd,λn a u h1 h2=>(r.obj n a u h1 h2).mono (Zy hp) λz hz=>by rw[QP (Zg hz hp)];exact hz⟩
theorem Q4{p:Addr}{o:HO}(hp:H p=none):Ext K μ H (μ++[p]) (upd H p o):=⟨⟨[p],rfl⟩,(Zy (μ:=μ) hp).tup,(Zy (μ:=μ) hp).fl⟩
theorem GRep.push{g:G}{p:Addr}{o:HO}{u:GO}(r:GRep K ca μ H g)(hp:H p=none)(ho:ORep K ca (μ++[p]) (upd H p o) p u):GRep K ca (μ++[p]) (upd H p o) (g++[u]):=by
 have nm:p∉μ:=λh=>by
  obtain⟨z,hz⟩:=r.known h
  rw[hp]at hz;cases hz
 refine⟨by rw[Ut,Ut,r.len];rfl,?_,λn a w h1 h2=>?_⟩
 ·rw[List.nodup_append]
  exact⟨r.nd,by simp,λx hx y hy e=>nm (by rw[Ug.mp hy]at e;rw[<-e];exact hx)⟩
 ·by_cases hn:n<g.length
  ·rw[UC hn]at h2
   rw[UC (by rw[r.len];exact hn)]at h1
   exact(r.obj n a w h1 h2).mono (Q4 hp) λz hz=>by rw[QP (Zg hz hp)];exact hz
  ·rw[UJ (by omega)]at h2
   rw[UJ (by rw[r.len];omega)]at h1
   have e0:n-g.length=0:=by
    have:=(Uf.mp h2).1
    simp at this;omega
   rw[e0]at h2
   rw[r.len,e0]at h1
   simp at h1 h2
   subst h1 h2
   exact ho
theorem QbP{a:Addr}{o o':HO}(h:H a=some o)(no:∀xs,o≠.tup xs)(nf:∀b u,o≠.frz b u):Ext K μ H μ (upd H a o'):=⟨⟨[],by simp⟩,λb xs hb=>by
 rcases hb with(z|⟨u,z⟩)|z
 ·exact .inl (.inl (by rw[QP (QkP z h (Ne.symm (no xs)))];exact z))
 ·exact .inl (.inr ⟨u,by rw[QP (QkP z h (Ne.symm (nf u _)))];exact z⟩)
 ·exact .inr z,λb xs hb=>by
 rcases hb with⟨u,z⟩|z
 ·exact .inl ⟨u,by rw[QP (QkP z h (Ne.symm (nf u _)))];exact z⟩
 ·exact .inr z⟩
theorem GRep.set{g:G}{n:Nat}{a:Addr}{o o':HO}{u:GO}(r:GRep K ca μ H g)(hn:μ[n]?=some a)(h:H a=some o)(no:∀xs,o≠.tup xs)(nf:∀b u,o≠.frz b u)(ho:ORep K ca μ (upd H a o') a u):
  GRep K ca μ (upd H a o') (g.set n u):=by
 refine⟨by rw[UO,r.len],r.nd,λm b w h1 h2=>?_⟩
 by_cases e:m=n
 ·subst e
  rw[hn]at h1;cases h1
  have hl:m<g.length:=by
   rw[<-r.len];exact(Uf.mp hn).1
  rw[UX hl]at h2;cases h2
  exact ho
 ·rw[Uq (Ne.symm e)]at h2
  have nb:b≠a:=λz=>by
   subst z
   have e1:=(Uf.mp h1)
   have e2:=(Uf.mp hn)
   obtain⟨l1,q1⟩:=e1
   obtain⟨l2,q2⟩:=e2
   exact e ((RT r.nd).mp (q1.trans q2.symm))
  exact(r.obj m b w h1 h2).mono (QbP h no nf) λz hz=>by rw[QP nb];exact hz
noncomputable abbrev XS:=Xc->L2.St->Hp->Prop
noncomputable def FpW(X:Cx)(pins:List (Addr×Obj))(H:Hp)(b:Addr):Prop :=
 H b=none/\b≠X.env.locals/\b∉X.fs/\(b∈X.ex\/X.s₀.heap.get? b=none)/\(∀x c,X.env.cells.lookup x=some c->c≠b)/\∀p∈X.pn++pins,p.1≠b
structure Fl(X:Cx)(ca:Nat->Addr)(a:Addr)(x:Xc)(H:Hp)(h:Heap):Prop where
 fp:FpW X [] H a
 ln:x.2=none
 ex:∃oe vs,h.get? a=some oe/\XOb ca x oe/\oe.data=.fields vs/\1<vs.size /\
  (vs[1]?=some .none\/∃T oT ts,vs[1]?=some (.ref T)/\T≠a/\FpW X [] H T/\h.get? T=some oT/\oT.data=.fields ts/\3<ts.size/\(ts[3]?=some .none\/ts[3]?=some (rawInt X.env.locals)))
noncomputable def XE(X:Cx)(ca:Nat->Addr)(Φ:XS):Value->Shared->Prop:=λv s=>∃a x σ H,v=.ref a/\Inv X [] σ H s/\Fl X ca a x H s.heap/\Φ x σ H
noncomputable abbrev xon(X:Cx)(pn:List (Addr×Obj)):Cx:={X with pn:=pn,xe:=λ_ _=>False}
noncomputable abbrev xat(X:Cx)(ca:Nat->Addr)(pn:List (Addr×Obj))(Φ:XS):Cx:={X with pn:=pn,xe:=XE (xon X pn) ca Φ}
def RaP(K:Frag)(ca:Nat->Addr)(Φ:XS)(σ:L2.St)(H:Hp)(μ:List Addr)(x:Xc)(g':G):Prop:=∀H' μ',Ext K μ H μ' H'->GRep K ca μ' H' g'->Φ x σ H'
noncomputable def Post(K:Frag)(ca:Nat->Addr)(Φ:XS)(σ:L2.St)(Q:VK)(H:Hp)(μ:List Addr):Res D->Prop
 |.ok d g'=>∀v H' μ',Ext K μ H μ' H'->GRep K ca μ' H' g'->Den K μ' H' v d->Q v H'
 |.raise x g'=>RaP K ca Φ σ H μ x g'
 |.stuck=>False
noncomputable def PostT(K:Frag)(ca:Nat->Addr)(Φ:XS)(σ:L2.St)(Q:Bool->Hp->Prop)(H:Hp)(μ:List Addr):Res Bool->Prop
 |.ok b g'=>∀H' μ',Ext K μ H μ' H'->GRep K ca μ' H' g'->Q b H'
 |.raise x g'=>RaP K ca Φ σ H μ x g'
 |.stuck=>False
noncomputable def PostA(K:Frag)(ca:Nat->Addr)(Φ:XS)(σ:L2.St)(Q:List V->Hp->Prop)(H:Hp)(μ:List Addr):Res (List D)->Prop
 |.ok ds g'=>∀vs H' μ',Ext K μ H μ' H'->GRep K ca μ' H' g'->Dens K μ' H' vs ds->Q vs H'
 |.raise x g'=>RaP K ca Φ σ H μ x g'
 |.stuck=>False
noncomputable def PostS(K:Frag)(ca:Nat->Addr)(Φ:XS)(E:Ends)(H:Hp)(μ:List Addr):Out->Prop
 |.nx σ3 g'=>∀σ' H' μ',Ext K μ H μ' H'->Rep K ca μ' σ3 g' σ' H'->E.nx σ' H'
 |.bk σ3 g'=>∀σ' H' μ',Ext K μ H μ' H'->Rep K ca μ' σ3 g' σ' H'->E.bk σ' H'
 |.ct σ3 g'=>∀σ' H' μ',Ext K μ H μ' H'->Rep K ca μ' σ3 g' σ' H'->E.ct σ' H'
 |.rt d g'=>∀v H' μ',Ext K μ H μ' H'->GRep K ca μ' H' g'->Den K μ' H' v d->E.rt v H'
 |.raise x σ3 g'=>∀σ' H' μ',Ext K μ H μ' H'->Rep K ca μ' σ3 g' σ' H'->Φ x σ' H'
 |.stuck=>False
noncomputable def up(K:Frag)(ca:Nat->Addr)(Φ:XS)(m:ME):TE:=λσ H Q=>∃σ3 g μ,Rep K ca μ σ3 g σ H/\Post K ca Φ σ Q H μ (m σ3 g)
noncomputable def upT(K:Frag)(ca:Nat->Addr)(Φ:XS)(m:MT):TT:=λσ H Q=>∃σ3 g μ,Rep K ca μ σ3 g σ H/\PostT K ca Φ σ Q H μ (m σ3 g)
noncomputable def upA(K:Frag)(ca:Nat->Addr)(Φ:XS)(m:MA):TA:=λσ H Q=>∃σ3 g μ,Rep K ca μ σ3 g σ H/\PostA K ca Φ σ Q H μ (m σ3 g)
noncomputable def upS(K:Frag)(ca:Nat->Addr)(Φ:XS)(m:MS):TS:=λE σ H=>∃σ3 g μ,Rep K ca μ σ3 g σ H/\PostS K ca Φ E H μ (m σ3 g)
def PE3(ca:Nat->Addr)(X:Cx)(e:Expr)(m:ME):Prop:=∀pn Φ,PE (xat X ca pn Φ) e (up X.K ca Φ m)
def PT3(ca:Nat->Addr)(X:Cx)(e:Expr)(m:MT):Prop:=∀pn Φ,PT (xat X ca pn Φ) e (upT X.K ca Φ m)
def PW3(ca:Nat->Addr)(X:Cx)(e:Expr)(m:MT):Prop:=∀pn Φ,PW (xat X ca pn Φ) e (upT X.K ca Φ m)
def PA3(ca:Nat->Addr)(X:Cx)(es:List Expr)(m:MA):Prop:=∀pn Φ,PA (xat X ca pn Φ) es (upA X.K ca Φ m)
def PS3(ca:Nat->Addr)(X:Cx)(st:Stmt)(m:MS):Prop:=∀pn Φ,PS (xat X ca pn Φ) st (upS X.K ca Φ m)
def PSs3(ca:Nat->Addr)(X:Cx)(sts:List Stmt)(m:MS):Prop:=∀pn Φ,PSs (xat X ca pn Φ) sts (upS X.K ca Φ m)
variable{Φ:XS}{σ:L2.St}
theorem RaP.go{x:Xc}{g':G}(e:Ext K μ H μ' H')(h:RaP K ca Φ σ H μ x g'):RaP K ca Φ σ H' μ' x g':=λH2 μ2 e2=>h H2 μ2 (e.trans e2)
theorem Post.go{Q:VK}{r:Res D}(e:Ext K μ H μ' H')(h:Post K ca Φ σ Q H μ r):Post K ca Φ σ Q H' μ' r:=by
 cases r with
 |ok d g'=>exact λv H2 μ2 e2=>h v H2 μ2 (e.trans e2)
 |raise _ _=>exact RaP.go e h
 |stuck=>exact h
theorem PostT.go{Q:Bool->Hp->Prop}{r:Res Bool}(e:Ext K μ H μ' H')(h:PostT K ca Φ σ Q H μ r):PostT K ca Φ σ Q H' μ' r:=by
 cases r with
 |ok d g'=>exact λH2 μ2 e2=>h H2 μ2 (e.trans e2)
 |raise _ _=>exact RaP.go e h
 |stuck=>exact h
theorem PostA.go{Q:List V->Hp->Prop}{r:Res (List D)}(e:Ext K μ H μ' H')(h:PostA K ca Φ σ Q H μ r):PostA K ca Φ σ Q H' μ' r:=by
 cases r with
 |ok d g'=>exact λv H2 μ2 e2=>h v H2 μ2 (e.trans e2)
 |raise _ _=>exact RaP.go e h
 |stuck=>exact h
theorem PostS.go{E:Ends}{r:Out}(e:Ext K μ H μ' H')(h:PostS K ca Φ E H μ r):PostS K ca Φ E H' μ' r:=by
 cases r with
 |nx _ _=>exact λv H2 μ2 e2=>h v H2 μ2 (e.trans e2)
 |bk _ _=>exact λv H2 μ2 e2=>h v H2 μ2 (e.trans e2)
 |ct _ _=>exact λv H2 μ2 e2=>h v H2 μ2 (e.trans e2)
 |rt _ _=>exact λv H2 μ2 e2=>h v H2 μ2 (e.trans e2)
 |raise _ _ _=>exact λv H2 μ2 e2=>h v H2 μ2 (e.trans e2)
 |stuck=>exact h
theorem Post.pure{Q:VK}{g:G}{v:V}{d:D}(h:Post K ca Φ σ Q H μ (.ok d g))(r:GRep K ca μ H g)(q:Den K μ H v d):Q v H:=h v H μ .refl r q
theorem RaP.stmt{x:Xc}{σ3:S3}{g g':G}{E:Ends}(R:Rep K ca μ σ3 g σ H)(h:PostS K ca Φ E H μ (.raise x σ3 g')):RaP K ca Φ σ H μ x g':=λH' μ' e r=>h σ H' μ' e (R.go e r)
theorem Qft{m:ME}{α:Type}{k:D->G->Res α}{σ3:S3}{g:G}(R:Rep K ca μ σ3 g σ H){P:Res α->Hp->List Addr->Prop}(hp:P ((m σ3 g).bind k) H μ)(hst:∀H μ,¬P .stuck H μ)(hra:∀e g H μ,P (.raise e g) H μ->RaP K ca Φ σ H μ e g)(hgo:∀r H μ H' μ',Ext K μ H μ' H'->P r H μ->P r H' μ'):
  up K ca Φ m σ H λx H1=>∃d g1 μ1,Ext K μ H μ1 H1/\Rep K ca μ1 σ3 g1 σ H1/\Den K μ1 H1 x d/\P (k d g1) H1 μ1:=by
 refine⟨σ3,g,μ,R,?_⟩
 cases hm:m σ3 g with
 |ok d g1 =>
  rw[hm]at hp
  exact λv H1 μ1 e1 r1 d1=>⟨d,g1,μ1,e1,R.go e1 r1,d1,hgo _ _ _ _ _ e1 hp⟩
 |raise e g1=>rw[hm]at hp;exact hra _ _ _ _ hp
 |stuck=>rw[hm]at hp;exact(hst _ _ hp).elim
theorem Qba{m:ME}{k:D->G->Res D}{σ3:S3}{g:G}{Q:VK}(R:Rep K ca μ σ3 g σ H)(hp:Post K ca Φ σ Q H μ ((m σ3 g).bind k)):
  up K ca Φ m σ H λx H1=>∃d g1 μ1,Ext K μ H μ1 H1/\Rep K ca μ1 σ3 g1 σ H1/\Den K μ1 H1 x d/\Post K ca Φ σ Q H1 μ1 (k d g1) :=
 Qft (P:=λr H μ=>Post K ca Φ σ Q H μ r) R hp (λ_ _ h=>h) (λ_ _ _ _ h=>h) λ_ _ _ _ _ e h=>h.go e
theorem QmM{m:ME}{k:D->G->Res Bool}{σ3:S3}{g:G}{Q:Bool->Hp->Prop}(R:Rep K ca μ σ3 g σ H)(hp:PostT K ca Φ σ Q H μ ((m σ3 g).bind k)):
  up K ca Φ m σ H λx H1=>∃d g1 μ1,Ext K μ H μ1 H1/\Rep K ca μ1 σ3 g1 σ H1/\Den K μ1 H1 x d/\PostT K ca Φ σ Q H1 μ1 (k d g1) :=
 Qft (P:=λr H μ=>PostT K ca Φ σ Q H μ r) R hp (λ_ _ h=>h) (λ_ _ _ _ h=>h) λ_ _ _ _ _ e h=>h.go e
theorem QnX{m:ME}{k:D->G->Res (List D)}{σ3:S3}{g:G}{Q:List V->Hp->Prop}(R:Rep K ca μ σ3 g σ H)(hp:PostA K ca Φ σ Q H μ ((m σ3 g).bind k)):
  up K ca Φ m σ H λx H1=>∃d g1 μ1,Ext K μ H μ1 H1/\Rep K ca μ1 σ3 g1 σ H1/\Den K μ1 H1 x d/\PostA K ca Φ σ Q H1 μ1 (k d g1) :=
 Qft (P:=λr H μ=>PostA K ca Φ σ Q H μ r) R hp (λ_ _ h=>h) (λ_ _ _ _ h=>h) λ_ _ _ _ _ e h=>h.go e
theorem Qge{m:MT}{α:Type}{k:Bool->G->Res α}{σ3:S3}{g:G}(R:Rep K ca μ σ3 g σ H){P:Res α->Hp->List Addr->Prop}(hp:P ((m σ3 g).bind k) H μ)(hst:∀H μ,¬P .stuck H μ)(hra:∀e g H μ,P (.raise e g) H μ->RaP K ca Φ σ H μ e g)(hgo:∀r H μ H' μ',Ext K μ H μ' H'->P r H μ->P r H' μ'):
  upT K ca Φ m σ H λb H1=>∃g1 μ1,Ext K μ H μ1 H1/\Rep K ca μ1 σ3 g1 σ H1/\P (k b g1) H1 μ1:=by
 refine⟨σ3,g,μ,R,?_⟩
 cases hm:m σ3 g with
 |ok d g1 =>
  rw[hm]at hp
  exact λH1 μ1 e1 r1=>⟨g1,μ1,e1,R.go e1 r1,hgo _ _ _ _ _ e1 hp⟩
 |raise e g1=>rw[hm]at hp;exact hra _ _ _ _ hp
 |stuck=>rw[hm]at hp;exact(hst _ _ hp).elim
theorem QmN{m:MT}{k:Bool->G->Res D}{σ3:S3}{g:G}{Q:VK}(R:Rep K ca μ σ3 g σ H)(hp:Post K ca Φ σ Q H μ ((m σ3 g).bind k)):
  upT K ca Φ m σ H λb H1=>∃g1 μ1,Ext K μ H μ1 H1/\Rep K ca μ1 σ3 g1 σ H1/\Post K ca Φ σ Q H1 μ1 (k b g1) :=
 Qge (P:=λr H μ=>Post K ca Φ σ Q H μ r) R hp (λ_ _ h=>h) (λ_ _ _ _ h=>h) λ_ _ _ _ _ e h=>h.go e
theorem QhS{m:MT}{k:Bool->G->Res Bool}{σ3:S3}{g:G}{Q:Bool->Hp->Prop}(R:Rep K ca μ σ3 g σ H)(hp:PostT K ca Φ σ Q H μ ((m σ3 g).bind k)):
  upT K ca Φ m σ H λb H1=>∃g1 μ1,Ext K μ H μ1 H1/\Rep K ca μ1 σ3 g1 σ H1/\PostT K ca Φ σ Q H1 μ1 (k b g1) :=
 Qge (P:=λr H μ=>PostT K ca Φ σ Q H μ r) R hp (λ_ _ h=>h) (λ_ _ _ _ h=>h) λ_ _ _ _ _ e h=>h.go e
theorem Qgf{m:MA}{α:Type}{k:List D->G->Res α}{σ3:S3}{g:G}(R:Rep K ca μ σ3 g σ H){P:Res α->Hp->List Addr->Prop}(hp:P ((m σ3 g).bind k) H μ)(hst:∀H μ,¬P .stuck H μ)(hra:∀e g H μ,P (.raise e g) H μ->RaP K ca Φ σ H μ e g)(hgo:∀r H μ H' μ',Ext K μ H μ' H'->P r H μ->P r H' μ'):
  upA K ca Φ m σ H λxs H1=>∃ds g1 μ1,Ext K μ H μ1 H1/\Rep K ca μ1 σ3 g1 σ H1/\Dens K μ1 H1 xs ds/\P (k ds g1) H1 μ1:=by
 refine⟨σ3,g,μ,R,?_⟩
 cases hm:m σ3 g with
 |ok d g1 =>
  rw[hm]at hp
  exact λv H1 μ1 e1 r1 d1=>⟨d,g1,μ1,e1,R.go e1 r1,d1,hgo _ _ _ _ _ e1 hp⟩
 |raise e g1=>rw[hm]at hp;exact hra _ _ _ _ hp
 |stuck=>rw[hm]at hp;exact(hst _ _ hp).elim
theorem Qgg{m:MA}{k:List D->G->Res D}{σ3:S3}{g:G}{Q:VK}(R:Rep K ca μ σ3 g σ H)(hp:Post K ca Φ σ Q H μ ((m σ3 g).bind k)):
  upA K ca Φ m σ H λxs H1=>∃ds g1 μ1,Ext K μ H μ1 H1/\Rep K ca μ1 σ3 g1 σ H1/\Dens K μ1 H1 xs ds/\Post K ca Φ σ Q H1 μ1 (k ds g1) :=
 Qgf (P:=λr H μ=>Post K ca Φ σ Q H μ r) R hp (λ_ _ h=>h) (λ_ _ _ _ h=>h) λ_ _ _ _ _ e h=>h.go e
theorem QmO{m:MA}{k:List D->G->Res (List D)}{σ3:S3}{g:G}{Q:List V->Hp->Prop}(R:Rep K ca μ σ3 g σ H)(hp:PostA K ca Φ σ Q H μ ((m σ3 g).bind k)):
  upA K ca Φ m σ H λxs H1=>∃ds g1 μ1,Ext K μ H μ1 H1/\Rep K ca μ1 σ3 g1 σ H1/\Dens K μ1 H1 xs ds/\PostA K ca Φ σ Q H1 μ1 (k ds g1) :=
 Qgf (P:=λr H μ=>PostA K ca Φ σ Q H μ r) R hp (λ_ _ h=>h) (λ_ _ _ _ h=>h) λ_ _ _ _ _ e h=>h.go e
theorem ZO{m:ME}{Q Q':VK}(h:up K ca Φ m σ H Q)(i:∀x H1,Q x H1->Q' x H1):up K ca Φ m σ H Q':=by
 obtain⟨σ3,g,μ,R,p⟩:=h
 refine⟨σ3,g,μ,R,?_⟩
 cases hm:m σ3 g with
 |ok d g1=>rw[hm]at p;exact λv H1 μ1 e r q=>i _ _ (p v H1 μ1 e r q)
 |raise e g1=>rw[hm]at p;exact p
 |stuck=>rw[hm]at p;exact p
theorem Qcj{m:MT}{Q Q':Bool->Hp->Prop}(h:upT K ca Φ m σ H Q)(i:∀x H1,Q x H1->Q' x H1):upT K ca Φ m σ H Q':=by
 obtain⟨σ3,g,μ,R,p⟩:=h
 refine⟨σ3,g,μ,R,?_⟩
 cases hm:m σ3 g with
 |ok d g1=>rw[hm]at p;exact λH1 μ1 e r=>i _ _ (p H1 μ1 e r)
 |raise e g1=>rw[hm]at p;exact p
 |stuck=>rw[hm]at p;exact p
theorem Qbp{m:MA}{Q Q':List V->Hp->Prop}(h:upA K ca Φ m σ H Q)(i:∀x H1,Q x H1->Q' x H1):upA K ca Φ m σ H Q':=by
 obtain⟨σ3,g,μ,R,p⟩:=h
 refine⟨σ3,g,μ,R,?_⟩
 cases hm:m σ3 g with
 |ok d g1=>rw[hm]at p;exact λv H1 μ1 e r q=>i _ _ (p v H1 μ1 e r q)
 |raise e g1=>rw[hm]at p;exact p
 |stuck=>rw[hm]at p;exact p
end
theorem ZP{X:Cx}{e:Expr}{t t':TE}(h:PE X e t)(i:∀σ H Q,t' σ H Q->t σ H Q):PE X e t':=λpins s σ H Q I q=>h pins s σ H Q I (i σ H Q q)
theorem Qfu{X:Cx}{e:Expr}{t t':TT}(h:PT X e t)(i:∀σ H Q,t' σ H Q->t σ H Q):PT X e t':=λpins s σ H Q I q=>h pins s σ H Q I (i σ H Q q)
theorem QhT{X:Cx}{e:Expr}{t t':TT}(h:PW X e t)(i:∀σ H Q,t' σ H Q->t σ H Q):PW X e t':=λw pins s σ H Q I q=>h w pins s σ H Q I (i σ H Q q)
theorem QhU{X:Cx}{e:List Expr}{t t':TA}(h:PA X e t)(i:∀σ H Q,t' σ H Q->t σ H Q):PA X e t':=λp pins s σ H Q I q=>h p pins s σ H Q I (i σ H Q q)
theorem JP{X:Cx}{e:Stmt}{t t':TS}(h:PS X e t)(i:∀D σ H,t' D σ H->t D σ H):PS X e t':=λpins s σ H D I q=>h pins s σ H D I (i D σ H q)
theorem Qgh{X:Cx}{e:List Stmt}{t t':TS}(h:PSs X e t)(i:∀D σ H,t' D σ H->t D σ H):PSs X e t':=λpins s σ H D I q=>h pins s σ H D I (i D σ H q)
section
variable{X:Cx}{ca:Nat->Addr}{a b c e:Expr}{es rest:List Expr}{ma mb me:ME}{tc ta tb:MT}{mr:MA}{pos:Pos}
theorem Qb(i:Nat){x:Str}(hN:X.N[i]?=some x:=by rfl)(hv:Vis X.env.scope x:=by first|exact Or.inl rfl|exact Or.inr (Or.inl rfl)|exact Or.inr (Or.inr rfl))(hd:(x == ("__debug__" : Str))=false:=by decide)(hcd:(x == ("__classdict__" : Str))=false:=by decide):PE3 ca X (.Name x pos) (mVar i) :=
 λpn Φ=>ZP (Ql9 (X:=xat X ca pn Φ) hN hv hd hcd) λσ H Q hQ=>by
  obtain⟨σ3,g,μ,R,p⟩:=hQ
  unfold mVar at p
  cases e:σ3[i]? with
  |none=>rw[e]at p;exact p.elim
  |some o =>
   cases o with
   |none=>rw[e]at p;exact p.elim
   |some d =>
    rw[e]at p
    obtain⟨v,h1,h2⟩:=R.st i d e
    exact⟨v,h1,p v H μ .refl R.g h2⟩
theorem QhV{v:V}{d:D}(h:∀pn Φ,PE (xat X ca pn Φ) e (tC v))(hd:∀K μ H,Den K μ H v d):PE3 ca X e (mLit d) :=
 λpn Φ=>ZP (h pn Φ) λ_ H _ ⟨_,_,μ,R,p⟩=>p v H μ .refl R.g (hd _ _ _)
theorem Qe{i:Int}{j:Nat}:PE3 ca X (.Constant (.int i) j pos) (mLit (.int i)):=QhV (λ_ _=>Qma) λ_ _ _=>.int i
theorem Qn{x:Str}{j:Nat}:PE3 ca X (.Constant (.str x) j pos) (mLit (.str x)):=QhV (λ_ _=>Qmc) λ_ _ _=>.str x
theorem r_bl{x:Bool}{j:Nat}:PE3 ca X (.Constant (.bool x) j pos) (mLit (.bl x)):=QhV (λ_ _=>QnG) λ_ _ _=>.bl x
theorem Zr{j:Nat}:PE3 ca X (.Constant .none j pos) (mLit .non):=QhV (λ_ _=>Qmb) λ_ _ _=>.non
theorem Qkr{x:Str}{v:V}{u:Value}{d:D}(hm:X.mg x=some u)(r:RelV v u)(hd':∀K μ H,Den K μ H v d)(hg:Gl X x:=by rfl)(hd:(x == ("__debug__" : Str))=false:=by decide):PE3 ca X (.Name x pos) (mLit d) :=
 QhV (λpn Φ=>Qfp (X:=xat X ca pn Φ) hg hm r hd) hd'
noncomputable def Qad(K:Frag)(ca:Nat->Addr)(r:R2)(f:D->D->G->Res D):Prop :=
 ∀(Φ:XS)(σ:L2.St)(H:Hp)(μ:List Addr)(g:G)(x y:V)(dx dy:D)(Q:VK),GRep K ca μ H g->Den K μ H x dx->Den K μ H y dy->Post K ca Φ σ Q H μ (f dx dy g)->r x y H Q
theorem Qgi{K:Frag}{Φ:XS}{r:R2}{f:D->D->G->Res D}(hp:Qad K ca r f)(σ:L2.St)(H:Hp)(Q:VK)(h:up K ca Φ (mOp2 f ma mb) σ H Q):tOp r (up K ca Φ ma) (up K ca Φ mb) σ H Q:=by
 obtain⟨σ3,g,μ,R,p⟩:=h
 refine ZO (Qba R p) λx H1 ⟨dx,g1,μ1,e1,R1,q1,p1⟩=>?_
 refine ZO (Qba R1 p1) λy H2 ⟨dy,g2,μ2,e2,R2,q2,p2⟩=>?_
 exact hp Φ σ H2 μ2 g2 x y dx dy Q R2.g (q1.mono e2) q2 p2
theorem QhW{op:Operator}{r:R2}{f:D->D->G->Res D}(ho:∀pn Φ,OpR (xat X ca pn Φ) (binaryOp op) r)(hp:Qad X.K ca r f)(ha:PE3 ca X a ma)(hb:PE3 ca X b mb):PE3 ca X (.BinOp a op b pos) (mOp2 f ma mb) :=
 λpn Φ=>ZP (QnP (ho pn Φ) (ha pn Φ) (hb pn Φ)) (Qgi hp)
theorem QhX{op:CmpOp}{r:R2}{f:D->D->G->Res D}(ho:∀pn Φ,OpR (xat X ca pn Φ) (compareOp op) r)(hp:Qad X.K ca r f)(ha:PE3 ca X a ma)(hb:PE3 ca X b mb)(hm:behindInMarks op b=false):PE3 ca X (.Compare a [op] [b] pos) (mOp2 f ma mb) :=
 λpn Φ=>ZP (Qk1 (ho pn Φ) (ha pn Φ) (hb pn Φ) hm) (Qgi hp)
theorem r_ix{r:R2}{f:D->D->G->Res D}(ho:∀pn Φ,IxR (xat X ca pn Φ) r)(hp:Qad X.K ca r f)(ha:PE3 ca X a ma)(hb:PE3 ca X b mb)(hs:Qfs b:=by exact λ_ _=>rfl):PE3 ca X (.Subscript a b pos) (mOp2 f ma mb) :=
 λpn Φ=>ZP (QnU (ho pn Φ) (ha pn Φ) (hb pn Φ) hs) (Qgi hp)
theorem r_un{op:UnaryOp}{r:V->Hp->VK->Prop}{f:D->G->Res D}(ho:∀pn Φ,UnR (xat X ca pn Φ) (unaryOp op) r)(hp:∀(Φ:XS) (σ:L2.St) (H:Hp) (μ:List Addr) (g:G) (x:V) (dx:D) (Q:VK),GRep X.K ca μ H g->Den X.K μ H x dx->Post X.K ca Φ σ Q H μ (f dx g)->r x H Q)(ha:PE3 ca X a ma):PE3 ca X (.UnaryOp op a pos) (mOp1 f ma) :=
 λpn Φ=>ZP (QnQ (ho pn Φ) (ha pn Φ)) λσ H Q ⟨σ3,g,μ,R,p⟩=>ZO (Qba R p) λx H1 ⟨dx,g1,μ1,e1,R1,q1,p1⟩=>hp Φ σ H1 μ1 g1 x dx Q R1.g q1 p1
theorem Qf:PA3 ca X [] mNil:=λpn Φ=>QhU (Qdp (X:=xat X ca pn Φ)) λ_ H _ ⟨_,_,μ,R,p⟩=>p [] H μ .refl R.g .nil
theorem Qa0(ha:PE3 ca X e me)(hr:PA3 ca X es mr)(hs:starEach (e::es) X.env=(false,eval e X.env)::starEach es X.env:=by rfl):PA3 ca X (e::es) (Qa me mr) :=
 λpn Φ=>QhU (Y2 (X:=xat X ca pn Φ) (ha pn Φ) (hr pn Φ) hs) λσ H Q ⟨σ3,g,μ,R,p⟩=>ZO (QnX R p) λx H1 ⟨d,g1,μ1,e1,R1,q1,p1⟩ =>
  Qbp (QmO R1 p1) λxs H2 ⟨ds,g2,μ2,e2,R2,q2,p2⟩=>p2 (x::xs) H2 μ2 .refl R2.g (.cons (q1.mono e2) q2)
theorem ZD(ha:PE3 ca X a ma)(he:∀whole,isTrue a X.env whole=(do let v <-whole;standAt a.pos;holding [v] (truthy v)):=by intro _;rfl):PT3 ca X a (Qj ma) :=
 λpn Φ=>Qfu (Qmd (X:=xat X ca pn Φ) (ha pn Φ) he) λσ H Q ⟨σ3,g,μ,R,p⟩=>ZO (QmM R p) λx H1 hQ=>by
  obtain⟨d,g1,μ1,e1,R1,q1,p1⟩:=hQ
  cases q1 with
  |bl b=>exact⟨b,rfl,p1 H1 μ1 .refl R1.g⟩
  |_=>exact p1.elim
theorem Js{op:CmpOp}{r:R2}{f:D->D->G->Res D}(ho:∀pn Φ,OpR (xat X ca pn Φ) (compareOp op) r)(hp:Qad X.K ca r f)(ha:PE3 ca X a ma)(hb:PE3 ca X b mb)(hm:behindInMarks op b=false):PT3 ca X (.Compare a [op] [b] pos) (Qj (mOp2 f ma mb)) :=
 λpn Φ=>Qfu (Qk2 (ho pn Φ) (ha pn Φ) (hb pn Φ) hm) λσ H Q hQ=>by
  obtain⟨σ3,g,μ,R,p⟩:=hQ
  have q:up X.K ca Φ (mOp2 f ma mb) σ H λx H'=>∃k,x=.bl k/\Q k H':=ZO (QmM R p) λx H1 hQ=>by
   obtain⟨d,g1,μ1,e1,R1,q1,p1⟩:=hQ
   cases q1 with
   |bl b=>exact⟨b,rfl,p1 H1 μ1 .refl R1.g⟩
   |_=>exact p1.elim
  exact Qgi hp σ H _ q
theorem YM(ha:PT3 ca X a ta):PT3 ca X (.UnaryOp .Not a pos) (Ys ta) :=
 λpn Φ=>Qfu (Qmg (X:=xat X ca pn Φ) (ha pn Φ)) λσ H Q ⟨σ3,g,μ,R,p⟩=>Qcj (QhS R p) λb H1 ⟨g1,μ1,e1,R1,p1⟩=>p1 H1 μ1 .refl R1.g
theorem QdT(ha:PT3 ca X a ta):PW3 ca X (.BoolOp .And [a] pos) ta:=λpn Φ=>QkS (X:=xat X ca pn Φ) (ha pn Φ)
theorem Z7(ha:PT3 ca X a ta):PW3 ca X (.BoolOp .Or [a] pos) ta:=λpn Φ=>Qme (X:=xat X ca pn Φ) (ha pn Φ)
theorem Qgj(ha:PT3 ca X a ta)(hb:PW3 ca X (.BoolOp .And (b::rest) pos) tb):PW3 ca X (.BoolOp .And (a::b::rest) pos) (QbN ta tb) :=
 λpn Φ=>QhT (Qmf (X:=xat X ca pn Φ) (ha pn Φ) (hb pn Φ)) λσ H Q ⟨σ3,g,μ,R,p⟩=>Qcj (QhS R p) λb H1 hQ=>by
  obtain⟨g1,μ1,e1,R1,p1⟩:=hQ
  cases b with
  |true=>rw[Uh rfl]at p1 ⊢;exact⟨σ3,g1,μ1,R1,p1⟩
  |false=>rw[Um Uc]at p1 ⊢;exact p1 H1 μ1 .refl R1.g
theorem YQ(ha:PT3 ca X a ta)(hb:PW3 ca X (.BoolOp .Or (b::rest) pos) tb):PW3 ca X (.BoolOp .Or (a::b::rest) pos) (mOrT ta tb) :=
 λpn Φ=>QhT (QnH (X:=xat X ca pn Φ) (ha pn Φ) (hb pn Φ)) λσ H Q ⟨σ3,g,μ,R,p⟩=>Qcj (QhS R p) λb H1 hQ=>by
  obtain⟨g1,μ1,e1,R1,p1⟩:=hQ
  cases b with
  |true=>rw[Uh rfl]at p1 ⊢;exact p1 H1 μ1 .refl R1.g
  |false=>rw[Um Uc]at p1 ⊢;exact⟨σ3,g1,μ1,R1,p1⟩
theorem r_w(h:PW3 ca X e ta):PT3 ca X e ta:=λpn Φ=>(h pn Φ).pt
theorem QmP(ha:PE3 ca X a ma):PE3 ca X (.UnaryOp .Not a pos) (mNot ma) :=
 λpn Φ=>ZP (Qmj (X:=xat X ca pn Φ) (ha pn Φ)) λσ H Q ⟨σ3,g,μ,R,p⟩=>ZO (Qba R p) λx H1 hQ=>by
  obtain⟨d,g1,μ1,e1,R1,q1,p1⟩:=hQ
  cases q1 with
  |bl b=>exact⟨b,rfl,p1 _ H1 μ1 .refl R1.g (.bl _)⟩
  |_=>exact p1.elim
theorem Qcc{op:BoolOp}(ha:PE3 ca X a ma):PE3 ca X (.BoolOp op [a] pos) ma:=λpn Φ=>Qmh (X:=xat X ca pn Φ) (ha pn Φ)
theorem Qaf(ha:PE3 ca X a ma)(hb:PE3 ca X (.BoolOp .And (b::rest) pos) mb):PE3 ca X (.BoolOp .And (a::b::rest) pos) (mAnd ma mb) :=
 λpn Φ=>ZP (Qmi (X:=xat X ca pn Φ) (ha pn Φ) (hb pn Φ)) λσ H Q ⟨σ3,g,μ,R,p⟩=>ZO (Qba R p) λx H1 hQ=>by
  obtain⟨d,g1,μ1,e1,R1,q1,p1⟩:=hQ
  cases q1 with
  |bl b =>
   refine⟨b,rfl,?_⟩
   cases b with
   |true=>rw[Uh rfl];exact⟨σ3,g1,μ1,R1,p1⟩
   |false=>rw[Um Uc];exact p1 _ H1 μ1 .refl R1.g (.bl _)
  |_=>exact p1.elim
theorem Qag(hc:PT3 ca X c tc)(ha:PE3 ca X a ma)(hb:PE3 ca X b mb):PE3 ca X (.IfExp c a b pos) (mIfE tc ma mb) :=
 λpn Φ=>ZP (Qjl (X:=xat X ca pn Φ) (hc pn Φ) (ha pn Φ) (hb pn Φ)) λσ H Q ⟨σ3,g,μ,R,p⟩=>Qcj (QmN R p) λb H1 hQ=>by
  obtain⟨g1,μ1,e1,R1,p1⟩:=hQ
  cases b with
  |true=>rw[Uh rfl]at p1 ⊢;exact⟨σ3,g1,μ1,R1,p1⟩
  |false=>rw[Um Uc]at p1 ⊢;exact⟨σ3,g1,μ1,R1,p1⟩
theorem Jt:SZ<=sizeLine:=by rw[Rh];decide
theorem Dens.sz{K:Frag}{μ:List Addr}{H:Hp}{vs:List V}{ds:List D}(h:Dens K μ H vs ds)(z:ds.length<=SZ):vs.length<=sizeLine:=by rw[h.length];exact Uw z Jt
theorem Qq{k:Nat}(h:PA3 ca X es mr):PE3 ca X (.Tuple es k pos) (mOpA pTup mr) :=
 λpn Φ=>ZP (Qkn (X:=xat X ca pn Φ) (h pn Φ)) λσ H Q ⟨σ3,g,μ,R,p⟩=>Qbp (Qgg R p) λxs H1 hQ=>by
  obtain⟨ds,g1,μ1,e1,R1,q1,p1⟩:=hQ
  unfold pTup at p1
  by_cases z:ds.length<=SZ
  ·rw[Uh z]at p1
   exact⟨q1.sz z,λt ht=>p1 _ _ μ1 (Zy ht) (R1.g.new ht) (.tup (.of QN) (q1.mono (Zy ht)))⟩
  ·rw[Um z]at p1;exact p1.elim
theorem ZL(h:PA3 ca X es mr):PE3 ca X (.List es pos) (mOpA newL mr) :=
 λpn Φ=>ZP (QmB (X:=xat X ca pn Φ) (h pn Φ)) λσ H Q ⟨σ3,g,μ,R,p⟩=>Qbp (Qgg R p) λxs H1 hQ=>by
  obtain⟨ds,g1,μ1,e1,R1,q1,p1⟩:=hQ
  unfold newL at p1
  by_cases z:ds.length<=SZ
  ·rw[Uh z]at p1
   refine⟨q1.sz z,λt ht=>p1 _ _ (μ1++[t]) (Q4 ht) (R1.g.push ht ⟨xs,QN,q1.mono (Q4 ht)⟩) (.ref ?_)⟩
   rw[<-R1.g.len];simp
  ·rw[Um z]at p1;exact p1.elim
end
section
variable{X:Cx}{ca:Nat->Addr}{pins:List (Addr×Obj)}{σ:L2.St}{H:Hp}{s:Shared}{a:Addr}{x:Xc}{E:Value->Shared->Prop}
theorem Qks{pn:List (Addr×Obj)}{Φ:XS}(I:Inv (xat X ca pn Φ) pins σ H s):Inv (xon X pn) pins σ H s:=(Inv.wish I λ_ _=>False)
theorem Qgk{b:Addr}{H':Hp}(I:Inv X pins σ H s)(hb:s.heap.get? b=none)(hn:H' b=none):FpW X pins H' b:=by
 refine⟨hn,λz=>?_,λz=>?_,?_,λx c e z=>?_,λp hp z=>?_⟩
 ·obtain⟨m,⟨o,_,_,ho,_⟩,_⟩:=I.loc
  rw[z,ho]at hb;cases hb
 ·obtain⟨_,o,ho,_⟩:=I.funs.mem z
  rw[ho]at hb;cases hb
 ·by_cases hx:b∈X.ex
  ·exact .inl hx
  ·refine .inr ?_
   cases q:X.s₀.heap.get? b with
   |none=>rfl
   |some o =>
    obtain⟨o',e'⟩:=I.base.there b o q hx
    rw[e']at hb;cases hb
 ·obtain⟨v,o,ho,_⟩:=I.cell x c e
  rw[z,hb]at ho;cases ho
 ·rw[<-z,(I.pin p hp).1]at hb;cases hb
theorem QeT{H':Hp}{h':Heap}{g':Array GenState}{t':Nat}{d':Drawn}{ch:List Addr}(I:Inv X pins σ H s)(hch:∀b∈ch,(b∈X.ex\/X.s₀.heap.get? b=none)/\b≠X.env.locals/\(∀x c,X.env.cells.lookup x=some c->c≠b)/\∀p∈X.pn++pins,p.1≠b)(keep:∀b o,b≠X.env.locals->b∉X.fs->b∉ch->s.heap.get? b=some o->H b=none->h'.get? b=some o)(slot:∀b o,b≠X.env.locals->b∈X.fs->b∉ch->s.heap.get? b=some o->H b=none->∃sl,h'.get? b=some {o with slots:=sl})(free:∀b o,b∉ch->s.heap.get? b=some o->H b=none->H' b=none)(there:∀b o,b∉ch->s.heap.get? b=some o->∃o',h'.get? b=some o')(tups:∀b xs,H b=some (.tup xs)->H' b=some (.tup xs))(frzs:∀b o u,H b=some (.frz o u)->H' b=some (.frz o u))(tbls:∀b ps,H b=some (.tbl ps)->∃more,H' b=some (.tbl (ps++more)))(ns:∀m,s.heap.Ns X.env.locals m->h'.Ns X.env.locals m)(hok:HOk X.prog X.w H' h')(hg:AllBare g'):
  Inv X pins σ H' {s with heap:=h',gens:=g',drawn:=d',toks:=t'}:=by
 have neL:∀b o,X.s₀.heap.get? b=some o->b≠X.env.locals:=λb o e=>UI (Ux (Uk e) I.ok.above)
 have neC:∀b o,X.s₀.heap.get? b=some o->b∉X.ex->b∉ch:=λb o e hx hb=>by
  rcases(hch b hb).1 with z|z
  ·exact hx z
  ·rw[z]at e;cases e
 have cellK:∀x c,X.env.cells.lookup x=some c->∀v,s.heap.IsCell c v->h'.IsCell c v:=λx c e v hQ=>by
  obtain⟨o,ho,hd⟩:=hQ
  have nch:c∉ch:=λz=>(hch c z).2.2.1 x c e rfl
  by_cases hc:c∈X.fs
  ·obtain⟨sl,q⟩:=slot c o (I.cne x c e) hc nch ho (I.freeC x c e)
   exact⟨_,q,hd⟩
  ·exact⟨o,keep c o (I.cne x c e) hc nch ho (I.freeC x c e),hd⟩
 refine⟨I.ok,I.os,hg,⟨λb o e n hb hx=>?_,λb o e n hb hx=>?_,λb o e n hx=>?_,λb o e hx=>?_,λb xs e=>tups b xs (I.base.tups b xs e),λb o xs e=>frzs b o xs (I.base.frzs b o xs e),λb ps e=>?_⟩,?_,λx c e=>?_,?_,λx c e=>?_,λp hp=>?_,hok,I.len⟩
 ·exact keep b o (neL b o e) hb (neC b o e hx) (I.base.keep b o e n hb hx) (I.base.free b o e n hx)
 ·obtain⟨sl,e1⟩:=I.base.slot b o e n hb hx
  obtain⟨sl',e2⟩:=slot b _ (neL b o e) hb (neC b o e hx) e1 (I.base.free b o e n hx)
  exact⟨sl',e2⟩
 ·obtain⟨o',e1⟩:=I.base.there b o e hx
  exact free b o' (neC b o e hx) e1 (I.base.free b o e n hx)
 ·obtain⟨o',e1⟩:=I.base.there b o e hx
  exact there b o' (neC b o e hx) e1
 ·obtain⟨m1,e1⟩:=I.base.tbls b ps e
  obtain⟨m2,e2⟩:=tbls b _ e1
  exact⟨m1++m2,by rw[e2,RB]⟩
 ·obtain⟨m,hn,hl⟩:=I.loc
  refine⟨m,ns m hn,λi x v e1 e2 e3=>?_⟩
  obtain⟨u,r,l⟩:=hl i x v e1 e2 e3
  refine⟨u,r,?_⟩
  rcases l with l|⟨k,c,e,z⟩
  ·exact .inl l
  ·exact .inr ⟨k,c,e,cellK x c e _ z⟩
 ·obtain⟨v,z⟩:=I.cell x c e
  exact⟨v,cellK x c e v z⟩
 ·obtain⟨m,⟨o,_,_,ho,_⟩,_⟩:=I.loc
  exact free _ o (λz=>(hch _ z).2.1 rfl) ho I.free
 ·obtain⟨v,o,ho,hd⟩:=I.cell x c e
  exact free c o (λz=>(hch c z).2.2.1 x c e rfl) ho (I.freeC x c e)
 ·obtain⟨e,n,ne,nf,d⟩:=I.pin p hp
  have nch:p.1∉ch:=λz=>(hch p.1 z).2.2.2 p hp rfl
  exact⟨keep p.1 p.2 ne nf nch e n,free p.1 p.2 nch e n,ne,nf,d⟩
theorem Qgl{ch:List Addr}{h':Heap}(I:Inv X pins σ H s)(hch:∀b∈ch,FpW X pins H b)(keep:∀b o,b∉ch->b≠X.env.locals->b∉X.fs->s.heap.get? b=some o->h'.get? b=some o)(slot:∀b o,b∉ch->s.heap.get? b=some o->∃sl,h'.get? b=some {o with slots:=sl}):Inv X pins σ H {s with heap:=h'}:=by
 have nl:X.env.locals∉ch:=λz=>(hch _ z).2.1 rfl
 have nt:∀b v,H b=some v->b∉ch:=λb v e z=>by rw[(hch b z).1]at e;cases e
 have nf:∀b v,H b=some v->b∉X.fs:=λb v e z=>by
  obtain⟨_,o,ho,_⟩:=I.ok.funs.mem z
  have:=I.base.free b o ho (I.ok.frf b z) λq=>I.ok.exfs b q z
  rw[this]at e;cases e
 have nL:∀b v,H b=some v->b≠X.env.locals:=λb v e z=>by rw[z,I.free]at e;cases e
 refine QeT (h':=h') (H':=H) (g':=s.gens) (t':=s.toks) (d':=s.drawn) (ch:=ch) I (λb hb=>⟨(hch b hb).2.2.2.1,(hch b hb).2.1,(hch b hb).2.2.2.2.1,(hch b hb).2.2.2.2.2⟩) (λb o h1 h2 h3 e _=>keep b o h3 h1 h2 e) (λb o _ _ h3 e _=>slot b o h3 e)
  (λb o _ _ n=>n) (λb o h e=>let ⟨sl,q⟩:=slot b o h e;⟨_,q⟩) (λb v e=>e) (λb o v e=>e) (λb ps e=>⟨#[],by rw[e];simp⟩) (λm hm=>?_) (λb v e=>?_) I.bare
 ·obtain⟨o,es,ep,ho,rr⟩:=hm
  obtain⟨sl,q⟩:=slot _ o nl ho
  exact⟨_,es,ep,q,rr⟩
 ·refine(I.hok b v e).stay (λc' v' hc' q=>?_) (λc' q=>q) λc' xs' q=>q
  rcases hc' with rfl|hc'
  ·exact keep _ _ (nt _ _ e) (nL _ _ e) (nf _ _ e) q
  ·exact keep _ _ (nt _ _ hc') (nL _ _ hc') (nf _ _ hc') q
noncomputable def FlN(X:Cx)(ca:Nat->Addr)(a:Addr)(x:Xc)(H:Hp)(h:Heap):Prop :=
 FpW X [] H a/\x.2=none/\∃oe vs T oT ts,h.get? a=some oe/\XOb ca x oe/\oe.data=.fields vs/\vs[1]?=some (.ref T)/\T≠a/\FpW X [] H T/\h.get? T=some oT/\oT.data=.fields ts/\ts[3]?=some (rawInt X.env.locals)
noncomputable def FlT(X:Cx)(ca:Nat->Addr)(a:Addr)(x:Xc)(H:Hp)(h:Heap):Prop :=
 FpW X [] H a/\x.2=none/\∃oe vs T oT ts,h.get? a=some oe/\XOb ca x oe/\oe.data=.fields vs/\vs[1]?=some (.ref T)/\T≠a/\FpW X [] H T/\h.get? T=some oT/\oT.data=.fields ts/\3<ts.size
theorem FlN.t{h:Heap}(f:FlN X ca a x H h):FlT X ca a x H h:=by
 obtain⟨f1,f2,oe,vs,T,oT,ts,e1,e2,e3,e4,e5,e6,e7,e8,e9⟩:=f
 exact⟨f1,f2,oe,vs,T,oT,ts,e1,e2,e3,e4,e5,e6,e7,e8,(U5.mp e9).1⟩
theorem FlN.fl{h:Heap}(f:FlN X ca a x H h):Fl X ca a x H h:=by
 obtain⟨f1,f2,oe,vs,T,oT,ts,e1,e2,e3,e4,e5,e6,e7,e8,e9⟩:=f
 exact⟨f1,f2,oe,vs,e1,e2,e3,(U5.mp e4).1,.inr ⟨T,oT,ts,e4,e5,e6,e7,e8,(U5.mp e9).1,.inr e9⟩⟩
theorem Qdu{h:Heap}{b:Addr}{o:Obj}{ts:Array Value}(i:Nat)(v:Value)(e:h.get? b=some o)(d:o.data=.fields ts):
  (h.update b (Obj.mapFields (·.setIfInBounds i v))).get? b=some (o.mapFields (·.setIfInBounds i v))/\(o.mapFields (·.setIfInBounds i v)).data=.fields (ts.setIfInBounds i v)/\(o.mapFields (·.setIfInBounds i v)).cls=o.cls :=
 ⟨T7 _ e (Obj.isFreed_of_fields (TU d _)),TU d _,Obj.cls_mapFields _ _⟩
theorem Qgm{base:Heap}{env:Env}{outer:List Env}{L:Addr}{oe:Obj}{vs:Array Value}{head:Value}{hn:Bool}{M:Model}{A:Around}{Q:Unit->Shared->Prop}(hfr:A.frames=some (env::outer))(hl:s.heap.FunFrames base (env::outer))(hf:env.frame=some L)(he:s.heap.get? a=some oe)(hd:oe.data=.fields vs)(hsz:1<vs.size)(ha:a∉(env::outer).filterMap (·.frame))(k:∀h₁ (cells:Array Value),Heap.SlotsOnly ((env::outer).filterMap (·.frame)) s.heap h₁->cells[3]?=some (rawInt L) ->
   Q () {s with heap:=(h₁.push {cls:=.type "traceback",dict:=none,data:=.fields cells}).update a (Obj.mapFields (·.setIfInBounds 1 (.ref h₁.objs.size)))}):
  wpAny M A (do let fv <-frameOf env;let pl <-entryPlaceOf L hn;let b <-EntryCells.newEntry head fv .none (rawInt L) .none pl;setField (.ref a) 1 b) Q E s:=by
 refine Ua (wpAny_frameOf_fun hfr hl hf λh₁ so=>Ua (wpAny_entryPlaceOf λpl hpl=>?_))
 unfold EntryCells.newEntry newFields
 refine Ua (U6 ?_ (hpl.sizeOk5 _ _ _ _ _))
 have e1:h₁.get? a=some oe:=(so.2.1 a ha).trans he
 refine T6 (Ub _ e1) hd hsz (k h₁ _ so ?_)
 first
  | (simp;done)
  | (rcases hpl with rfl|⟨_,_,_,_,_,_,_,rfl⟩ <;> simp)
theorem Qfv{M:Model}{Q:Unit->Shared->Prop}(I:Inv X [] σ H s)(hk:X.stack=X.env::X.outer)(hf:X.env.frame=some X.env.locals)(fl:Fl X ca a x H s.heap)(k:∀h',Inv X [] σ H {s with heap:=h'}->FlN X ca a x H h'->Q () {s with heap:=h'}):wpAny M X.A (noteFrame (.ref a) X.env) Q E s:=by
 obtain⟨fp,ln,oe,vs,he,hc,hd,hsz,hv⟩:=fl
 have hfr:X.A.frames=some (X.env::X.outer):=by rw[<-hk];exact I.ok.frames
 have hst:s.heap.FunFrames X.base (X.env::X.outer):=by rw[<-hk];exact I.stack
 have hfs:(X.env::X.outer).filterMap (·.frame)=X.env.locals::X.fs:=by rw[Th,hf];rfl
 have ha:a∉(X.env::X.outer).filterMap (·.frame):=by
  rw[hfs]
  intro z
  rcases Ui.mp z with z|z
  ·exact fp.2.1 z
  ·exact fp.2.2.1 z
 -- an entry is laid over a heap that differs from s at ch alone
 have fin:∀(h0 h₁:Heap)(cells:Array Value)(ch:List Addr),(∀b∈ch,FpW X [] H b)->(∀b o,b∉ch->s.heap.get? b=some o->h0.get? b=some o)->h0.objs.size=s.heap.objs.size->h0.get? a=some oe ->
   Heap.SlotsOnly ((X.env::X.outer).filterMap (·.frame)) h0 h₁->cells[3]?=some (rawInt X.env.locals) ->
   Q () {s with heap:=(h₁.push {cls:=.type "traceback",dict:=none,data:=.fields cells}).update a (Obj.mapFields (·.setIfInBounds 1 (.ref h₁.objs.size)))}:=by
  intro h0 h₁ cells ch hch hk0 hz he0 so hcl
  have e1:h₁.get? a=some oe:=(so.2.1 a ha).trans he0
  obtain⟨u1,u2,u3⟩:=Qdu 1 (.ref h₁.objs.size) (Ub {cls:=.type "traceback",dict:=none,data:=.fields cells} e1) hd
  have hTa:h₁.objs.size≠a:=Rw (Uk e1)
  have oth:∀b o,b≠a->h₁.get? b=some o->((h₁.push {cls:=.type "traceback",dict:=none,data:=.fields cells}).update a (Obj.mapFields (·.setIfInBounds 1 (.ref h₁.objs.size)))).get? b=some o:=λb o hb e =>
   (UZ _ _ (Ne.symm hb)).trans (Ub _ e)
  refine k _ (Qgl (ch:=a::ch) I (λb hb=>?_) (λb o h1 h2 h3 e=>?_) λb o h1 e=>?_) ⟨fp,ln,_,_,h₁.objs.size,_,cells,u1,hc.map _,u2,by simp[hsz],hTa,?_,(UZ _ _ (Ne.symm hTa)).trans (Ur _ rfl),rfl,hcl⟩
  ·rcases Ui.mp hb with e|e
   ·rw[e];exact fp
   ·exact hch b e
  ·refine oth b o (λz=>h1 (by rw[z];exact UH)) ?_
   rw[so.2.1 b (by rw[hfs];intro z;rcases Ui.mp z with z|z;(· exact h2 z);exact h3 z)]
   exact hk0 b o (λz=>h1 (Uz _ z)) e
  ·obtain⟨sl,q⟩:=so.2.2 b o (hk0 b o (λz=>h1 (Uz _ z)) e)
   exact⟨sl,oth b _ (λz=>h1 (by rw[z];exact UH)) q⟩
  ·refine Qgk I (Heap.get?_none_of_le ?_) (I.hok.fresh ?_) <;> rw[so.1,hz] <;> exact Ul _
 unfold noteFrame
 simp only[hf]
 rcases hv with hv|⟨T,oT,ts,hv,hTa,fT,hT,hdT,hs3,h3⟩
 ·refine Ua (UK he hd hv ?_)
  rw[Um (by decide)]
  exact Qgm hfr hst hf he hd hsz ha λh₁ cells so hcl=>fin s.heap h₁ cells [] (by simp) (λ_ _ _ e=>e) rfl he so hcl
 ·refine Ua (UK he hd hv ?_)
  rw[Uh (show(Value.ref T != Value.none)=true from by simp)]
  rcases h3 with h3|h3
  ·refine Ua (UK hT hdT h3 ?_)
   rw[Um (show ¬((Value.none == rawInt X.env.locals)=true) from by simp[rawInt])]
   refine Ua (T6 hT hdT hs3 ?_)
   have oth:∀b o,b≠T->s.heap.get? b=some o->(s.heap.update T (Obj.mapFields (·.setIfInBounds 3 Value.none))).get? b=some o:=λb o hb e=>(UZ _ _ (Ne.symm hb)).trans e
   have kp:∀b o,s.heap.get? b=some o->(∀vs,o.data≠.fields vs)->(s.heap.update T (Obj.mapFields (·.setIfInBounds 3 Value.none))).get? b=some o:=λb o e n=>oth b o (λz=>by rw[z,hT]at e;cases e;exact n _ hdT) e
   refine Qgm (s:={s with heap:=s.heap.update T (Obj.mapFields (·.setIfInBounds 3 Value.none))}) hfr (hst.of_keeps λb o e n=>⟨o,kp b o e n,rfl⟩) hf (oth a oe (Ne.symm hTa) he) hd hsz ha λh₁ cells so hcl=>?_
   exact fin _ h₁ cells [T] (λb hb=>by rw[Ug.mp hb];exact fT) (λb o hb e=>oth b o (λz=>hb (by simp[z])) e) (Heap.size_after_update ..) (oth a oe (Ne.symm hTa) he) so hcl
  ·refine Ua (UK hT hdT h3 ?_)
   rw[Uh (show(rawInt X.env.locals == rawInt X.env.locals)=true from by simp)]
   exact Uj (k s.heap I ⟨fp,ln,oe,vs,T,oT,ts,he,hc,hd,hv,hTa,fT,hT,hdT,h3⟩)
theorem Qah{M:Model}{A:Around}{Q:Unit->Shared->Prop}{fo:Option Addr}(I:Inv X [] σ H s)(fl:FlT X ca a x H s.heap)(k:∀h' T oT ts oe vs,Inv X [] σ H {s with heap:=h'}->h'.get? a=some oe->XOb ca x oe->oe.data=.fields vs->vs[1]?=some (.ref T)->T≠a->FpW X [] H T ->
      h'.get? T=some oT->oT.data=.fields ts->3<ts.size->ts[3]?=some (fo.elim Value.none λf=>rawInt f)->Q () {s with heap:=h'}):wpAny M A (setFlight (.ref a) fo) Q E s:=by
  obtain⟨fp,ln,oe,vs,T,oT,ts,he,hc,hd,hv,hTa,fT,hT,hdT,hs3⟩:=fl
  unfold setFlight
  refine Ua (UK he hd hv ?_)
  rw[Uh (show(Value.ref T != Value.none)=true from by simp)]
  have oth:∀b o,b≠T->s.heap.get? b=some o->(s.heap.update T (Obj.mapFields (·.setIfInBounds 3 (fo.elim Value.none λf=>rawInt f)))).get? b=some o:=λb o hb e=>(UZ _ _ (Ne.symm hb)).trans e
  obtain⟨u1,u2,u3⟩:=Qdu 3 (fo.elim Value.none λf=>rawInt f) hT hdT
  refine T6 hT hdT hs3 (k _ T _ _ oe vs (Qgl (ch:=[T]) I (λb hb=>by rw[Ug.mp hb];exact fT) (λb o h1 _ _ e=>oth b o (λz=>h1 (by simp[z])) e) λb o h1 e=>⟨o.slots,oth b o (λz=>h1 (by simp[z])) e⟩)
    (oth a oe (Ne.symm hTa) he) hc hd hv hTa fT u1 u2 (by simpa using hs3) (by simp[hs3]))
theorem Qkt(hk:X.stack=X.env::X.outer)(hf:X.env.frame=some X.env.locals)(pn:List (Addr×Obj))(Φ:XS):PassesOwn (model X.prog X.w) X.A X.env (xat X ca pn Φ).xe:=by
 rintro v s ⟨a,x,σ,H,rfl,I,fl,q⟩
 refine Qfv (X:=xon X pn) I hk hf fl λh1 I1 f1=>?_
 unfold cameBackBy
 obtain⟨fp,ln,oe,vs,T,oT,ts,he,hc,hd,hv,hTa,fT,hT,hdT,h3⟩:=id f1
 refine Ua (UK he hd hv ?_)
 rw[Um (show ¬((Value.ref T == Value.none)=true) from by simp)]
 refine Qah (X:=xon X pn) (fo:=X.env.frame) I1 f1.t λh2 T oT ts oe vs I2 a1 a2 a3 a4 a5 a6 a7 a8 a9 a10=>?_
 rw[hf]at a10
 exact⟨a,x,σ,H,rfl,I2,FlN.fl ⟨fp,ln,oe,vs,T,oT,ts,a1,a2,a3,a4,a5,a6,a7,a8,a10⟩,q⟩
end
noncomputable def CXW(P:Program)(w:World)(ca:Nat->Addr):CXT:=λouter H s E v s'=>∃(a:Addr)(x:Xc)(H':Hp),v=.ref a/\s'.os=s.os/\AllBare s'.gens/\Un (frs outer) [] H H' s.heap s'.heap/\HOk P w H' s'.heap/\x.2=none /\
 (∃oe vs T oT ts,s.heap.get? a=none/\H' a=none/\s'.heap.get? a=some oe/\XOb ca x oe/\oe.data=.fields vs/\vs[1]?=some (.ref T)/\T≠a/\s.heap.get? T=none/\H' T=none/\s'.heap.get? T=some oT/\oT.data=.fields ts/\ts[3]?=some .none) /\
 E (.int x.1 0) x.2 H'
section
variable{P:Program}{w:World}{K:Frag}{mg:Str->Option Value}{base:Heap}{ca:Nat->Addr}
theorem Qjw{N:List Str}{qual:Str}{scope:Scope}{f:Addr}{cd:Value}{A:Around}{outer:List Env}{s s':Shared}{H:Hp}{E:XK}{v:Value}(h:XE (xon (cxOf (CXW P w ca) P w K mg base N qual scope f cd A outer s H E) []) ca (λx _ H'=>E (.int x.1 0) x.2 H') v s'):(cxOf (CXW P w ca) P w K mg base N qual scope f cd A outer s H E).xe v s':=by
 obtain⟨a,x,σ,H',rfl,I,fl,q⟩:=h
 show wpAny _ _ (leaving _ (.ref a)) _ _ s'
 unfold leaving
 refine Ua (Qfv I rfl rfl fl λh1 I1 f1=>?_)
 obtain⟨fp,ln,_⟩:=id f1
 refine Qah (fo:=none) I1 f1.t λh2 T oT ts oe vs I2 a1 a2 a3 a4 a5 a6 a7 a8 a9 a10=>?_
 refine⟨a,x,H',rfl,I2.os,I2.bare,I2.base,I2.hok,ln,⟨oe,vs,T,oT,ts,?_,fp.1,a1,a2,a3,a4,a5,?_,a6.1,a7,a8,a10⟩,q⟩
 ·rcases fp.2.2.2.1 with z|z
  ·exact absurd (show a∈([]:List Addr) from z) (by simp)
  ·exact z
 ·rcases a6.2.2.2.1 with z|z
  ·exact absurd (show T∈([]:List Addr) from z) (by simp)
  ·exact z
end
section
variable{X:Cx}{ca:Nat->Addr}{pn:List (Addr×Obj)}{Φ:XS}
theorem QhY{pins:List (Addr×Obj)}{σ:L2.St}{H:Hp}{s s':Shared}{v:Value}(I:Inv (xat X ca pn Φ) pins σ H s)(h:CXW X.prog X.w ca X.stack H s (λc l H'=>∀x:Xc,c=.int x.1 0->l=x.2->Φ x σ H') v s'):(xat X ca pn Φ).xe v s':=by
 obtain⟨a,x,H',rfl,os,bare,un,hok,ln,⟨oe,vs,T,oT,ts,e1,e2,e3,e4,e5,e6,e7,e8,e9,e10,e11,e12⟩,q⟩:=h
 have I0:Inv (xon X pn) [] σ H s:=(Qks I).pins_of λp hp=>absurd hp (by simp)
 have I1:Inv (xon X pn) [] σ H' s':=Inv.call' (ch:=[]) I0 os un hok bare λb z=>absurd z (by simp)
 refine⟨a,x,σ,H',rfl,I1,⟨Qgk I0 e1 e2,ln,oe,vs,e3,e4,e5,(U5.mp e6).1,.inr ⟨T,oT,ts,e6,e7,Qgk I0 e8 e9,e10,e11,(U5.mp e12).1,.inl e12⟩⟩,q x rfl rfl⟩
end
section
variable{X:Cx}{ca:Nat->Addr}{a b c e:Expr}{st:Stmt}{sts rest:List Stmt}{ma mb me:ME}{tc:MT}{m m':MS}{pos:Pos}
theorem Qp:PSs3 ca X [] QA:=λpn Φ=>Qgh (Qhy (X:=xat X ca pn Φ)) λ_ σ H ⟨_,_,μ,R,p⟩=>p σ H μ .refl R
theorem QmQ{K:Frag}{Φ:XS}(E:Ends)(σ:L2.St)(H:Hp)(h:upS K ca Φ (mSeq m m') E σ H):tSeq (upS K ca Φ m) (upS K ca Φ m') E σ H:=by
 obtain⟨σ3,g,μ,R,p⟩:=h
 refine⟨σ3,g,μ,R,?_⟩
 unfold mSeq at p
 cases hm:m σ3 g with
 |nx σ1 g1 =>
  rw[hm]at p
  exact λσ' H' μ' e' R'=>⟨σ1,g1,μ',R',PostS.go e' p⟩
 |rt d g1=>rw[hm]at p;exact p
 |bk _ _=>rw[hm]at p;exact p
 |ct _ _=>rw[hm]at p;exact p
 |raise _ _ _=>rw[hm]at p;exact p
 |stuck=>rw[hm]at p;exact p
theorem Qd(h1:PS3 ca X st m)(h2:PSs3 ca X rest m'):PSs3 ca X (st::rest) (mSeq m m'):=λpn Φ=>Qgh (Qjm (X:=xat X ca pn Φ) (h1 pn Φ) (h2 pn Φ)) QmQ
theorem Qh(h1:PS3 ca X st m):PSs3 ca X [st] m:=λpn Φ=>QkT (X:=xat X ca pn Φ) (h1 pn Φ)
theorem Qai(he:PE3 ca X e me)(hs:swapsWith e none pos.line X.env=pure false:=by rfl):PS3 ca X (.Expr e pos) (YJ me) :=
 λpn Φ=>JP (QkU (X:=xat X ca pn Φ) (he pn Φ) hs) λE σ H ⟨σ3,g,μ,R,p⟩=>⟨σ3,g,μ,R,by
  unfold YJ at p
  cases hm:me σ3 g with
  |ok d g1=>rw[hm]at p;exact λv H' μ' e' r' _=>p σ H' μ' e' (R.go e' r')
  |raise _ _=>rw[hm]at p;exact RaP.stmt R p
  |stuck=>rw[hm]at p;exact p⟩
theorem Qv(he:PE3 ca X e me):PS3 ca X (.Return (some e) pos) (mRet me) :=
 λpn Φ=>JP (Qmk (X:=xat X ca pn Φ) (he pn Φ)) λE σ H ⟨σ3,g,μ,R,p⟩=>⟨σ3,g,μ,R,by
  unfold mRet at p
  cases hm:me σ3 g with
  |ok d g1=>rw[hm]at p;exact p
  |raise _ _=>rw[hm]at p;exact RaP.stmt R p
  |stuck=>rw[hm]at p;exact p⟩
theorem r_if{sa sb:List Stmt}(hc:PT3 ca X c tc)(ha:PSs3 ca X sa m)(hb:PSs3 ca X sb m'):PS3 ca X (.If c sa sb pos) (mIf tc m m') :=
 λpn Φ=>JP (QnM (X:=xat X ca pn Φ) (hc pn Φ) (ha pn Φ) (hb pn Φ)) λE σ H ⟨σ3,g,μ,R,p⟩=>⟨σ3,g,μ,R,by
  unfold mIf at p
  cases hm:tc σ3 g with
  |ok d g1 =>
   rw[hm]at p
   cases d with
   |true=>exact λH' μ' e' r'=>by show(if true=true then _ else _);rw[Uh rfl];exact⟨σ3,g1,μ',R.go e' r',PostS.go e' (by simpa using p)⟩
   |false=>exact λH' μ' e' r'=>by show(if false=true then _ else _);rw[Um Uc];exact⟨σ3,g1,μ',R.go e' r',PostS.go e' (by simpa using p)⟩
  |raise _ _=>rw[hm]at p;exact RaP.stmt R p
  |stuck=>rw[hm]at p;exact p⟩
noncomputable def upG(K:Frag)(ca:Nat->Addr)(f:MG):TG:=λv σ H Q=>∃σ3 g μ d σ3',Rep K ca μ σ3 g σ H/\Den K μ H v d/\f d σ3=some σ3'/\∀σ',Rep K ca μ σ3' g σ' H->Q σ' H
def PG3(ca:Nat->Addr)(X:Cx)(tg:Expr)(f:MG):Prop:=∀pn Φ,PG (xat X ca pn Φ) tg (upG X.K ca f)
theorem QhZ{X:Cx}{tg:Expr}{t t':TG}(h:PG X tg t)(i:∀v σ H Q,t' v σ H Q->t v σ H Q):PG X tg t':=λpins s σ H x u Q I r q=>h pins s σ H x u Q I r (i x σ H Q q)
theorem Rep.set{K:Frag}{μ:List Addr}{σ3:S3}{g:G}{σ:L2.St}{H:Hp}{v:V}{d:D}(R:Rep K ca μ σ3 g σ H)(h:Den K μ H v d)(i:Nat):Rep K ca μ (σ3.set i (some d)) g (σ.set i (some v)) H:=by
 refine⟨R.g,by rw[UO,UO,R.len],λj x hx=>?_⟩
 by_cases e:j=i
 ·subst e
  have hl:j<σ3.length:=by
   have:=(Uf.mp hx).1
   simpa using this
  rw[UX hl]at hx
  cases hx
  exact⟨v,by rw[UX (by rw[R.len];exact hl)],h⟩
 ·rw[Uq (Ne.symm e)]at hx
  obtain⟨w,h1,h2⟩:=R.st j x hx
  exact⟨w,by rw[Uq (Ne.symm e)];exact h1,h2⟩
theorem QG(i:Nat){x:Str}(hN:X.N.Nodup)(hi:X.N[i]?=some x:=by rfl)(hx:Loc X.env.scope x:=by first|exact Or.inl rfl|exact Or.inr rfl)(hf:X.fn x=true\/X.env.scope.names.lookup x=some .local:=by first|exact .inl rfl|exact .inr rfl):PG3 ca X (.Name x pos) (gSet i) :=
 λpn Φ=>QhZ (QkV (X:=xat X ca pn Φ) hN hi hx hf) λv σ H Q hQ=>by
  obtain⟨σ3,g,μ,d,σ3',R,q,e,k⟩:=hQ
  cases e
  exact k _ (R.set q i)
noncomputable def upGs(K:Frag)(ca:Nat->Addr)(fs:List MG):TGs:=λvs σ H Q=>∃σ3 g μ ds σ3',Rep K ca μ σ3 g σ H/\Dens K μ H vs ds/\Qg1 fs ds σ3=some σ3'/\∀σ',Rep K ca μ σ3' g σ' H->Q σ' H
def PGs3(ca:Nat->Addr)(X:Cx)(tgs:List Expr)(fs:List MG):Prop:=∀pn Φ,PGs (xat X ca pn Φ) tgs (upGs X.K ca fs)
theorem Qgn{X:Cx}{tg:List Expr}{t t':TGs}(h:PGs X tg t)(i:∀v σ H Q,t' v σ H Q->t v σ H Q):PGs X tg t':=λpins s σ H xs us Q I r q=>h pins s σ H xs us Q I r (i xs σ H Q q)
theorem Qaj:PGs3 ca X [] []:=λpn Φ=>Qgn (QkW (X:=xat X ca pn Φ)) λvs σ H Q hQ=>by
 obtain⟨σ3,g,μ,ds,σ3',R,q,e,k⟩:=hQ
 cases q with
 |nil=>cases e;exact⟨rfl,k _ R⟩
 |cons _ _=>cases e
theorem QL{es:List Expr}{f:MG}{fs:List MG}(h1:PG3 ca X e f)(h2:PGs3 ca X es fs)(hs:(assignEach (e::es) X.env).map (·.2)=assign e X.env::(assignEach es X.env).map (·.2):=by rfl):PGs3 ca X (e::es) (f::fs) :=
 λpn Φ=>Qgn (Qjn (X:=xat X ca pn Φ) (h1 pn Φ) (h2 pn Φ) hs) λvs σ H Q hQ=>by
  obtain⟨σ3,g,μ,ds,σ3',R,q,e,k⟩:=hQ
  cases q with
  |nil=>cases e
  |@cons v d vs ds q1 q2 =>
   unfold Qg1 at e
   cases hf:f d σ3 with
   |none=>rw[hf]at e;cases e
   |some σ4 =>
    rw[hf]at e
    exact⟨v,vs,rfl,σ3,g,μ,d,σ4,R,q1,hf,λσ' R'=>⟨σ4,g,μ,ds,σ3',R',q2,e,k⟩⟩
theorem QeU:∀{fs:List MG}{ds:List D}{σ σ':S3},Qg1 fs ds σ=some σ'->ds.length=fs.length
 |[],[],_,_,_=>rfl
 |[],_::_,_,_,h=>by cases h
 |_::_,[],_,_,h=>by cases h
 |f::fs,d::ds,σ,σ',h=>by
  unfold Qg1 at h
  cases hf:f d σ with
  |none=>rw[hf]at h;cases h
  |some σ4 =>
   rw[hf]at h
   rw[UQ,UQ,QeU (fs:=fs) h]
theorem Qak{es:List Expr}{k:Nat}{fs:List MG}(hc:X.calm=true)(h:PGs3 ca X es fs)(hn:(assignEach es X.env).length=fs.length:=by rfl)(hst:(assignEach es X.env).findIdx? (·.1)=none:=by rfl):PG3 ca X (.Tuple es k pos) (JO fs) :=
 λpn Φ=>QhZ (Qmm (X:=xat X ca pn Φ) hc (h pn Φ) hn hst) λv σ H Q hQ=>by
  obtain⟨σ3,g,μ,d,σ3',R,q,e,kk⟩:=hQ
  cases q with
  |@tup a vs ds ht hs =>
   exact⟨a,vs,rfl,ht,hs.length.trans (QeU e),σ3,g,μ,ds,σ3',R,hs,e,kk⟩
  |_=>cases e
theorem QmR{K:Frag}{Φ:XS}{f:MG}(E:Ends)(σ:L2.St)(H:Hp)(h:upS K ca Φ (mAsg f me) E σ H):tAsg (up K ca Φ me) (upG K ca f) E σ H:=by
 obtain⟨σ3,g,μ,R,p⟩:=h
 refine⟨σ3,g,μ,R,?_⟩
 unfold mAsg at p
 cases hm:me σ3 g with
 |ok d g1 =>
  rw[hm]at p
  dsimp only at p
  intro v H' μ' e' r' q'
  cases hf:f d σ3 with
  |none=>rw[hf]at p;exact p.elim
  |some σ4 =>
   rw[hf]at p
   exact⟨σ3,g1,μ',d,σ4,R.go e' r',q',hf,λσ' R'=>p σ' H' μ' e' R'⟩
 |raise _ _=>rw[hm]at p;exact RaP.stmt R p
 |stuck=>rw[hm]at p;exact p
theorem Qdb{tg:Expr}{f:MG}(he:PE3 ca X e me)(hg:PG3 ca X tg f)(hs:swapsWithSole [tg] e pos.line X.env=pure false:=by rfl)(hw:swappedStores [tg] e X.env=pure none:=by rfl)(h1:(assignEach [tg] X.env).map (·.2)=[assign tg X.env]:=by rfl):PS3 ca X (.Assign [tg] e pos) (mAsg f me) :=
 λpn Φ=>JP (Qkk (X:=xat X ca pn Φ) (he pn Φ) (hg pn Φ) hs hw h1) QmR
theorem QnY(i:Nat){x:Str}{pos':Pos}(hN:X.N.Nodup)(he:PE3 ca X e me)(hi:X.N[i]?=some x:=by rfl)(hx:Loc X.env.scope x:=by first|exact Or.inl rfl|exact Or.inr rfl)(hs:swapsWith e (some (.Name x pos')) pos.line X.env=pure false:=by rfl)(hf:X.fn x=true\/X.env.scope.names.lookup x=some .local:=by first|exact .inl rfl|exact .inr rfl):
  PS3 ca X (.Assign [.Name x pos'] e pos) (mAsg (gSet i) me) :=
 λpn Φ=>JP (Qmo (X:=xat X ca pn Φ) hN hi hx (he pn Φ) hs hf) λE σ H h=>by
  obtain⟨σ3,g,μ,R,p⟩:=h
  refine⟨σ3,g,μ,R,?_⟩
  unfold mAsg gSet at p
  cases hm:me σ3 g with
  |ok d g1 =>
   rw[hm]at p
   exact λv H' μ' e' r' q'=>p _ H' μ' e' ((R.go e' r').set q' i)
  |raise _ _=>rw[hm]at p;exact RaP.stmt R p
  |stuck=>rw[hm]at p;exact p
structure FldOk(K:Frag)(ca:Nat->Addr)(cs:List Nat)(f:Str):Prop where
 cl:∀c∈cs,Cls K (ca c)
 no:∀c∈cs,NoAttr K (ca c) f
theorem FRel.look{K:Frag}{μ:List Addr}{H:Hp}{f:Str}{d:D}:∀{fv:List (Str×V)}{fs:List (Str×D)},FRel K μ H fv fs->fs.lookup f=some d->∃v,fv.lookup f=some v/\Den K μ H v d
 |_,_,.nil,h=>by cases h
 | (k,v)::r,(k',d')::r',.cons ⟨e,q⟩ t,h=>by
  have e:k=k':=e
  subst e
  cases hb:f == k with
  |true =>
   simp only[List.lookup,hb]at h ⊢
   cases h
   exact⟨v,rfl,q⟩
  |false =>
   simp only[List.lookup,hb]at h ⊢
   exact FRel.look t h
theorem FRel.no{K:Frag}{μ:List Addr}{H:Hp}{f:Str}:∀{fv:List (Str×V)}{fs:List (Str×D)},FRel K μ H fv fs->fs.lookup f=Option.none->fv.lookup f=Option.none
 |_,_,.nil,_=>rfl
 | (k,v)::r,(k',d')::r',.cons ⟨e,q⟩ t,h=>by
  have e:k=k':=e
  subst e
  cases hb:f == k with
  |true=>simp only[List.lookup,hb]at h;cases h
  |false =>
   simp only[List.lookup,hb]at h ⊢
   exact FRel.no t h
theorem FRel.put{K:Frag}{μ:List Addr}{H:Hp}{f:Str}{v:V}{d:D}(q:Den K μ H v d):∀{fv:List (Str×V)}{fs:List (Str×D)},FRel K μ H fv fs->FRel K μ H (putF f v fv) (putG f d fs)
 |_,_,.nil=>.cons ⟨rfl,q⟩ .nil
 | (k,w)::r,(k',d')::r',.cons ⟨e,z⟩ t=>by
  have e:k=k':=e
  subst e
  show FRel K μ H (if k=f then (k,v)::r else (k,w)::putF f v r) (if k=f then (k,d)::r' else (k,d')::putG f d r')
  by_cases h:k=f
  ·rw[Uh h,Uh h];exact .cons ⟨rfl,q⟩ t
  ·rw[Um h,Um h];exact .cons ⟨rfl,z⟩ (FRel.put q t)
theorem Qdv{cs:List Nat}{f:Str}(he:PE3 ca X e me)(ok:FldOk X.K ca cs f)(hb:attributeBase e f X.env (eval e X.env)=eval e X.env:=by rfl):PE3 ca X (.Attribute e f pos) (Qa9 cs f me) :=
 λpn Φ=>ZP (Qmz (X:=xat X ca pn Φ) (he pn Φ) hb) λσ H Q ⟨σ3,g,μ,R,p⟩=>ZO (Qba R p) λx H1 hQ=>by
  obtain⟨d,g1,μ1,e1,R1,q1,p1⟩:=hQ
  cases q1 with
  |@ref n a hn =>
   dsimp only at p1
   cases hg:g1[n]? with
   |none=>rw[hg]at p1;exact p1.elim
   |some o =>
    rw[hg]at p1
    obtain⟨a',ha',ob⟩:=R1.g.addr hg
    rw[hn]at ha';cases ha'
    cases o with
    |ins c fs =>
     dsimp only at p1
     obtain⟨dx,fv,hH,fr⟩:=ob
     by_cases hc:c∈cs
     ·rw[Uh hc]at p1
      cases hl:fs.lookup f with
      |none=>rw[hl]at p1;exact p1.elim
      |some y =>
       rw[hl]at p1
       obtain⟨v,h1,h2⟩:=fr.look hl
       exact⟨a,ca c,dx,fv,v,rfl,hH,ok.cl c hc,ok.no c hc,h1,p1 v H1 μ1 .refl R1.g h2⟩
     ·rw[Um hc]at p1;exact p1.elim
    |_=>exact p1.elim
  |_=>exact p1.elim
theorem Qh0{o:Expr}{mo:ME}{cs:List Nat}{f:Str}{pos':Pos}(ho:PE3 ca X o mo)(he:PE3 ca X e me)(ok:FldOk X.K ca cs f)(hs:swapsWith e (some (.Attribute o f pos')) pos.line X.env=pure false:=by rfl):
  PS3 ca X (.Assign [.Attribute o f pos'] e pos) (Qci cs f mo me) :=
 λpn Φ=>JP (QmA (X:=xat X ca pn Φ) (ho pn Φ) (he pn Φ) hs) λE σ H ⟨σ3,g,μ,R,p⟩=>⟨σ3,g,μ,R,by
  unfold Qci at p
  cases hm:me σ3 g with
  |ok y g1 =>
   rw[hm]at p
   dsimp only at p
   intro vy H1 μ1 e1 r1 q1
   refine⟨σ3,g1,μ1,R.go e1 r1,?_⟩
   cases hm2:mo σ3 g1 with
   |ok d g2 =>
    rw[hm2]at p
    intro vx H2 μ2 e2 r2 q2
    cases q2 with
    |@ref n a hn =>
     dsimp only at p
     cases hg:g2[n]? with
     |none=>rw[hg]at p;exact p.elim
     |some ob =>
      rw[hg]at p
      obtain⟨a',ha',orp⟩:=r2.addr hg
      rw[hn]at ha';cases ha'
      cases ob with
      |ins c fs =>
       dsimp only at p
       obtain⟨dx,fv,hH,fr⟩:=orp
       by_cases hc:c∈cs/\fs.length<100
       ·rw[Uh hc]at p
        have fl:fv.length=fs.length:=Paired.length fr
        refine⟨a,ca c,dx,fv,rfl,hH,ok.cl c hc.1,ok.no c hc.1,by omega,?_⟩
        have ex:Ext X.K μ2 H2 μ2 (upd H2 a (.ins (ca c) dx (putF f vy fv))):=QbP hH (by intro _ z;cases z) (by intro _ _ z;cases z)
        refine p σ _ μ2 ((e1.trans e2).trans ex) ((R.go (e1.trans e2) r2).go ex ?_)
        exact r2.set hn hH (by intro _ z;cases z) (by intro _ _ z;cases z) ⟨dx,_,QN,FRel.put ((q1.mono e2).mono ex) (fr.mono ex)⟩
       ·rw[Um hc]at p;exact p.elim
      |_=>exact p.elim
    |_=>exact p.elim
   |raise _ _=>rw[hm2]at p;exact(RaP.stmt R p).go e1
   |stuck=>rw[hm2]at p;exact p
  |raise _ _=>rw[hm]at p;exact RaP.stmt R p
  |stuck=>rw[hm]at p;exact p⟩
theorem QdU{o i:Expr}{mo mi:ME}{pos':Pos}(ho:PE3 ca X o mo)(hi:PE3 ca X i mi)(he:PE3 ca X e me)(hs:swapsWithSole [.Subscript o i pos'] e pos.line X.env=pure false:=by rfl)(hw:swappedStores [.Subscript o i pos'] e X.env=pure none:=by rfl)(h1:(assignEach [.Subscript o i pos'] X.env).map (·.2)=[assign (.Subscript o i pos') X.env]:=by rfl)(ha:∀v,assign (.Subscript o i pos') X.env v=(do
   let ov <-holding [v] (eval o X.env)
   let iv <-holding [v,ov] (eval i X.env)
   standAt pos'
   holding [v,ov,iv] (setItem ov iv v)
   release [v,ov,iv] []):=by intro _;rfl):PS3 ca X (.Assign [.Subscript o i pos'] e pos) (Jf mo mi me) :=
 λpn Φ=>JP (Qkk (X:=xat X ca pn Φ) (he pn Φ) (Qmn (X:=xat X ca pn Φ) (ho pn Φ) (hi pn Φ) Qju ha) hs hw h1) λE σ H ⟨σ3,g,μ,R,p⟩=>⟨σ3,g,μ,R,by
  unfold Jf at p
  cases hm:me σ3 g with
  |ok y g1 =>
   rw[hm]at p
   dsimp only at p
   intro vy H1 μ1 e1 r1 q1
   refine⟨σ3,g1,μ1,R.go e1 r1,?_⟩
   cases hm2:mo σ3 g1 with
   |ok d g2 =>
    rw[hm2]at p
    intro vx H2 μ2 e2 r2 q2
    cases q2 with
    |@ref n a hn =>
     dsimp only at p
     refine⟨σ3,g2,μ2,R.go (e1.trans e2) r2,?_⟩
     cases hm3:mi σ3 g2 with
     |ok di g3 =>
      rw[hm3]at p
      intro vi H3 μ3 e3 r3 q3
      cases q3 with
      |int k =>
       dsimp only at p
       cases hg:g3[n]? with
       |none=>rw[hg]at p;exact p.elim
       |some ob =>
        rw[hg]at p
        obtain⟨a',ha',orp⟩:=r3.addr hg
        rw[e3.at hn]at ha';cases ha'
        cases ob with
        |lst ds =>
         dsimp only at p
         obtain⟨vs,hH,q⟩:=orp
         cases hj:ixD ds.length k with
         |none=>rw[hj]at p;exact p.elim
         |some j =>
          rw[hj]at p
          have ex:Ext X.K μ3 H3 μ3 (upd H3 a (.lst (vs.set j vy))):=QbP hH (by intro _ z;cases z) (by intro _ _ z;cases z)
          refine⟨a,vs,k,j,rfl,rfl,hH,by rw[q.length];exact hj,?_⟩
          refine p σ _ μ3 (((e1.trans e2).trans e3).trans ex) ((R.go ((e1.trans e2).trans e3) r3).go ex ?_)
          exact r3.set (e3.at hn) hH (by intro _ z;cases z) (by intro _ _ z;cases z) ⟨_,QN,Dens.set (((q1.mono e2).mono e3).mono ex) j (q.mono ex)⟩
        |_=>exact p.elim
      |_=>exact p.elim
     |raise _ _=>rw[hm3]at p;exact(RaP.stmt R p).go (e1.trans e2)
     |stuck=>rw[hm3]at p;exact p
    |_=>exact p.elim
   |raise _ _=>rw[hm2]at p;exact(RaP.stmt R p).go e1
   |stuck=>rw[hm2]at p;exact p
  |raise _ _=>rw[hm]at p;exact RaP.stmt R p
  |stuck=>rw[hm]at p;exact p⟩
noncomputable def Sim(K:Frag)(ca:Nat->Addr)(μ0:List Addr)(H0:Hp)(src:Src)(J:It):Prop :=
 ∀(i:Nat)(H:Hp)(μ:List Addr)(g:G),Ext K μ0 H0 μ H->GRep K ca μ H g->match src.at' g i with
  |some (some d)=>J.go i H/\∀x H',J.yld i H x H'->Ext K μ H μ H'/\GRep K ca μ H' g/\Den K μ H' x d
  |some none=>J.stop i H
  |none=>True
noncomputable def upI(K:Frag)(ca:Nat->Addr)(Φ:XS)(m:MI):TI:=λσ H R=>∃σ3 g μ,Rep K ca μ σ3 g σ H/\match m σ3 g with
 |.ok src g'=>∀J H' μ',Ext K μ H μ' H'->GRep K ca μ' H' g'->Sim K ca μ' H' src J->R J H'
 |.raise x g'=>RaP K ca Φ σ H μ x g'
 |.stuck=>False
def PI3(ca:Nat->Addr)(X:Cx)(tg iter:Expr)(m:MI):Prop:=∀pn Φ,PI (xat X ca pn Φ) tg iter (upI X.K ca Φ m)
theorem Qdc{tg iter:Expr}{body:List Stmt}{mi:MI}{f:MG}(hc:X.calm=true)(hi:PI3 ca X tg iter mi)(hg:PG3 ca X tg f)(hb:PSs3 ca X body m)(hs:∀x,foldedSetIterable iter X.env x=pure x:=by intro _;rfl)(hk:X.stack=X.env::X.outer:=by rfl)(hf:X.env.frame=some X.env.locals:=by rfl):
  PS3 ca X (.For tg iter body [] pos) (mFor mi f m) :=
 λpn Φ=>JP (Qmq (X:=xat X ca pn Φ) (Qkt hk hf pn Φ) hc (hi pn Φ) (hg pn Φ) (hb pn Φ) hs) λE σ H ⟨σ3,g,μ,R,p⟩=>⟨σ3,g,μ,R,by
  unfold mFor at p
  cases hm:mi σ3 g with
  |ok src g' =>
   rw[hm]at p
   dsimp only at p ⊢
   intro J H' μ' e' r' sim
   refine⟨λi n σ1 H1=>∃σ4 g1 μ1,Ext X.K μ' H' μ1 H1/\Rep X.K ca μ1 σ4 g1 σ1 H1/\PostS X.K ca Φ E H1 μ1 (forL src f m n i σ4 g1),⟨src.top+1,σ3,g',μ',.refl,R.go e' r',p.go e'⟩,?_⟩
   rintro i n σ1 H1 ⟨σ4,g1,μ1,e1,R1,p1⟩
   have s1:=sim i H1 μ1 g1 e1 R1.g
   cases n with
   |zero=>exact p1.elim
   |succ n =>
    unfold forL at p1
    cases ha:src.at' g1 i with
    |none=>rw[ha]at p1;exact p1.elim
    |some od =>
     rw[ha]at p1 s1
     cases od with
     |none=>exact .inl ⟨s1,p1 σ1 H1 μ1 .refl R1⟩
     |some d =>
      dsimp only at p1 s1
      obtain⟨go,yl⟩:=s1
      refine .inr ⟨go,λσ2 H2=>∃σ5 g2 μ2,Ext X.K μ' H' μ2 H2/\Rep X.K ca μ2 σ5 g2 σ2 H2/\PostS X.K ca Φ E H2 μ2 (forL src f m n (i+1) σ5 g2),λσ2 H2 z=>⟨n,U4 n,z⟩,λx H2 y=>?_⟩
      obtain⟨e2,r2,q2⟩:=yl x H2 y
      cases hf:f d σ4 with
      |none=>rw[hf]at p1;exact p1.elim
      |some σ5 =>
       rw[hf]at p1
       dsimp only at p1
       refine⟨σ4,g1,μ1,d,σ5,R1.go e2 r2,q2,hf,λσ6 R6=>⟨σ5,g1,μ1,R6,?_⟩⟩
       cases hb:m σ5 g1 with
       |nx σ7 g7 =>
        rw[hb]at p1
        exact λσ' H3 μ3 e3 R3=>⟨σ7,g7,μ3,(e1.trans e2).trans e3,R3,PostS.go (e2.trans e3) p1⟩
       |ct σ7 g7 =>
        rw[hb]at p1
        exact λσ' H3 μ3 e3 R3=>⟨σ7,g7,μ3,(e1.trans e2).trans e3,R3,PostS.go (e2.trans e3) p1⟩
       |bk σ7 g7 =>
        rw[hb]at p1
        exact λσ' H3 μ3 e3 R3=>p1 σ' H3 μ3 (e2.trans e3) R3
       |rt d7 g7 =>
        rw[hb]at p1
        exact λv H3 μ3 e3 r3 q3=>p1 v H3 μ3 (e2.trans e3) r3 q3
       |raise _ _ _ =>
        rw[hb]at p1
        exact λσ' H3 μ3 e3 R3=>p1 σ' H3 μ3 (e2.trans e3) R3
       |stuck=>rw[hb]at p1;exact p1
  |raise _ _=>rw[hm]at p;exact RaP.stmt R p
  |stuck=>rw[hm]at p;exact p⟩
theorem Qh1{body:List Stmt}(hc:PT3 ca X c tc)(hb:PSs3 ca X body m)(hk:X.stack=X.env::X.outer:=by rfl)(hf:X.env.frame=some X.env.locals:=by rfl):PS3 ca X (.While c body [] pos) (Qds tc m) :=
 λpn Φ=>JP (Qjo (X:=xat X ca pn Φ) (Qkt hk hf pn Φ) (hc pn Φ) (hb pn Φ)) λE σ H hQ=>by
  obtain⟨σ3,g,μ,R,p⟩:=hQ
  unfold Qds at p
  by_cases hh:∃f,ZH tc m f σ3 g≠.stuck
  ·rw[dif_pos hh]at p
   generalize hh.choose=k at p
   refine⟨λn σ1 H1=>∃σ4 g1 μ1,Ext X.K μ H μ1 H1/\Rep X.K ca μ1 σ4 g1 σ1 H1/\PostS X.K ca Φ E H1 μ1 (ZH tc m n σ4 g1),⟨k,σ3,g,μ,.refl,R,p⟩,?_⟩
   rintro n σ1 H1 ⟨σ4,g1,μ1,e1,R1,p1⟩
   cases n with
   |zero=>exact p1.elim
   |succ n =>
    unfold ZH at p1
    refine⟨σ4,g1,μ1,R1,?_⟩
    cases ht:tc σ4 g1 with
    |ok t g2 =>
     rw[ht]at p1
     cases t with
     |true =>
      dsimp only at p1
      intro H2 μ2 e2 r2
      rw[Uh rfl]
      refine⟨λσ2 H3=>∃σ5 g3 μ3,Ext X.K μ H μ3 H3/\Rep X.K ca μ3 σ5 g3 σ2 H3/\PostS X.K ca Φ E H3 μ3 (ZH tc m n σ5 g3),λσ2 H3 z=>⟨n,U4 n,z⟩,σ4,g2,μ2,R1.go e2 r2,?_⟩
      cases hb:m σ4 g2 with
      |nx σ7 g7 =>
       rw[hb]at p1
       exact λσ' H3 μ3 e3 R3=>⟨σ7,g7,μ3,(e1.trans e2).trans e3,R3,PostS.go (e2.trans e3) p1⟩
      |ct σ7 g7 =>
       rw[hb]at p1
       exact λσ' H3 μ3 e3 R3=>⟨σ7,g7,μ3,(e1.trans e2).trans e3,R3,PostS.go (e2.trans e3) p1⟩
      |bk σ7 g7 =>
       rw[hb]at p1
       exact λσ' H3 μ3 e3 R3=>p1 σ' H3 μ3 (e2.trans e3) R3
      |rt d7 g7 =>
       rw[hb]at p1
       exact λv H3 μ3 e3 r3 q3=>p1 v H3 μ3 (e2.trans e3) r3 q3
      |raise _ _ _ =>
       rw[hb]at p1
       exact λσ' H3 μ3 e3 R3=>p1 σ' H3 μ3 (e2.trans e3) R3
      |stuck=>rw[hb]at p1;exact p1
     |false =>
      intro H2 μ2 e2 r2
      rw[Um Uc]
      exact p1 σ1 H2 μ2 e2 (R1.go e2 r2)
    |raise _ _=>rw[ht]at p1;exact RaP.stmt R1 p1
    |stuck=>rw[ht]at p1;exact p1
  ·rw[dif_neg hh]at p;exact p.elim
end
noncomputable def spM(K:Frag)(ca:Nat->Addr)(n:Nat)(F:MF):Sp:=λvs H Q E=>vs.length=n/\∃ds g μ,GRep K ca μ H g/\Dens K μ H vs ds/\match F ds g with
 |.ok d g'=>∀v H' μ',Ext K μ H μ' H'->GRep K ca μ' H' g'->Den K μ' H' v d->Q v H'
 |.raise x g'=>∀H' μ',Ext K μ H μ' H'->GRep K ca μ' H' g'->E (.int x.1 0) x.2 H'
 |.stuck=>False
theorem Qh2{K:Frag}{ca:Nat->Addr}{μ:List Addr}{H:Hp}{g:G}{vs:List V}{ds:List D}(N:List Str)(r:GRep K ca μ H g)(q:Dens K μ H vs ds):Rep K ca μ (ds.map some++List.replicate (N.length-vs.length) none) g (L2.start N vs) H:=by
 unfold L2.start
 refine⟨r,?_,λi d h=>?_⟩
 ·rw[Ut,Ut,Ud,Ud,q.length,US,US]
 ·by_cases hi:i<ds.length
  ·rw[UC (by simpa using hi),UB]at h
   cases hd:ds[i]? with
   |none=>rw[hd]at h;cases h
   |some d' =>
    rw[hd]at h;cases h
    obtain⟨v,h1,h2⟩:=q.get hd
    refine⟨v,?_,h2⟩
    rw[UC (by simpa[q.length]using hi),UB,h1];rfl
  ·rw[UJ (by simpa using hi),Tw]at h
   split at h <;> cases h
structure FnH(P:Program)(w:World)(K:Frag)(mg:Str->Option Value)(base:Heap)(ca:Nat->Addr)(x:Str)(k n:Nat)(F:MF):Prop where
 ex:∃(f:Addr)(fd:FuncData)(ps:List Str),FnOk P w K mg base (CXW P w ca) k f fd ps (spM K ca n F)/\mg x=some (.ref f)/\keepIn K (.ref f)=true/\Binds K fd ps []
 st:∀ds g,ds.length≠n->F ds g=.stuck
structure MkH(P:Program)(w:World)(K:Frag)(mg:Str->Option Value)(base:Heap)(ca:Nat->Addr)(c:Nat)(x:Str)(k n:Nat)(F:MF):Prop where
 ex:∃(f:Addr)(fd:FuncData)(ps:List Str),FnOk P w K mg base (CXW P w ca) k f fd ps (spM K ca n F)/\Mk K (ca c) f/\mg x=some (.ref (ca c))/\Binds K fd ps []
 st:∀ds g,ds.length≠n->F ds g=.stuck
theorem Qfw(k n:Nat)(m:MS):∀ds g,ds.length≠k->mDef k n m ds g=.stuck:=λds g h=>by unfold mDef;rw[Um h]
theorem FnH.mono{P:Program}{w:World}{K:Frag}{mg:Str->Option Value}{base:Heap}{ca:Nat->Addr}{x:Str}{j k n:Nat}{F:MF}(h:FnH P w K mg base ca x j n F)(hj:j<=k):FnH P w K mg base ca x k n F:=by
 obtain⟨f,fd,ps,a,b⟩:=h.ex
 exact⟨⟨f,fd,ps,a.mono hj,b⟩,h.st⟩
section
variable{P:Program}{w:World}{K:Frag}{mg:Str->Option Value}{base:Heap}{ca:Nat->Addr}
theorem Qh3{N:List Str}{qual:Str}{scope:Scope}{f:Addr}{cd:Value}{A:Around}{outer:List Env}{s:Shared}{H:Hp}{E:XK}{body:List Stmt}{t:TS}(h:PSs (xat (cxOf (CXW P w ca) P w K mg base N qual scope f cd A outer s H E) ca [] (λx _ H'=>E (.int x.1 0) x.2 H')) body t):PSs (cxOf (CXW P w ca) P w K mg base N qual scope f cd A outer s H E) body t:=λpins s1 σ H1 D I q =>
 UV (h pins s1 σ H1 D (Inv.wish I _) q) (λ_ _ z=>SP.unwish (X:=cxOf (CXW P w ca) P w K mg base N qual scope f cd A outer s H E) z) λ_ _ z=>Qjw z
theorem Qjx{x qual:Str}{st:Stmt}{f:Addr}{fd:FuncData}{N ps:List Str}{k n j:Nat}{m:MS}(F:Fun K x qual st f fd)(S:FnScope N ps (Qi st))(hj:ps.length=j)(hn:N.length-ps.length=n)(h:∀(cdv:Value) (A:Around) (outer:List Env) (s:Shared) (H:Hp) (E:XK),Room k (A.deeper (envOfC qual (Qi st) s.heap.objs.size f cdv)) ->
   PSs3 ca (cxOf (CXW P w ca) P w K mg base N qual (Qi st) f cdv A outer s H E) (Y3 st) m):FnOk P w K mg base (CXW P w ca) (k+1) f fd ps (spM K ca j (mDef j n m)):=by
 subst hj
 obtain⟨oc,od,kV,doc,pm,an,cdv,ct,osl,rfl,lk,hcd⟩:=F.ex
 refine QmC lk hcd S (λvs H Q E q=>q.1) λA outer s H vs Q E hr hsp=>?_
 obtain⟨hl,ds,g,μ,r,q,p⟩:=hsp
 refine⟨_,Qh3 (h cdv A outer s H E hr [] _),ds.map some++List.replicate n none,g,μ,?_,?_⟩
 ·have z:=Qh2 N r q
  rw[hl,hn]at z
  exact z
 ·unfold mDef at p
  rw[Uh (by rw[<-q.length,hl])]at p
  cases hm:m (ds.map some++List.replicate n none) g with
  |nx σ' g'=>rw[hm]at p;exact λσ'' H' μ' e' R'=>p .non H' μ' e' R'.g .non
  |rt d g'=>rw[hm]at p;exact p
  |bk _ _=>rw[hm]at p;exact p.elim
  |ct _ _=>rw[hm]at p;exact p.elim
  |raise _ _ _=>rw[hm]at p;exact λσ'' H' μ' e' R'=>p H' μ' e' R'.g
  |stuck=>rw[hm]at p;exact p.elim
noncomputable def EK(Φ:XS)(σ:L2.St):XK:=λc l H'=>∀x:Xc,c=.int x.1 0->l=x.2->Φ x σ H'
theorem Qku{F:MF}{n:Nat}{Φ:XS}{σ:L2.St}{Q:VK}{H:Hp}{μ:List Addr}{vs:List V}{ds:List D}{g:G}(st:∀ds g,ds.length≠n->F ds g=.stuck)(r:GRep K ca μ H g)(q:Dens K μ H vs ds)(p:Post K ca Φ σ Q H μ (F ds g)):spM K ca n F vs H Q (EK Φ σ):=by
 have hl:vs.length=n:=by
  rw[q.length]
  apply Decidable.byContradiction
  intro h
  rw[st ds g h]at p
  exact p
 refine⟨hl,ds,g,μ,r,q,?_⟩
 cases hF:F ds g with
 |ok d g'=>rw[hF]at p;exact p
 |raise x g' =>
  rw[hF]at p
  intro H' μ' e r' y e1 e2
  have:x=y:=by
   obtain⟨a,b⟩:=x
   obtain⟨c,d⟩:=y
   injection e1 with e1
   have e1:(a:Int)=(c:Int):=e1
   have e3:a=c:=by omega
   rw[e3,show b=d from e2]
  rw[<-this]
  exact p H' μ' e r'
 |stuck=>rw[hF]at p;exact p
end
section
variable{X:Cx}{ca:Nat->Addr}{e o:Expr}{es:List Expr}{me mo:ME}{mr:MA}{p pos apos:Pos}{k n:Nat}{F:MF}{pn:List (Addr×Obj)}{Φ:XS}
theorem QmS{f:Addr}{fd:FuncData}{ps:List Str}{pins:List (Addr×Obj)}{σ:L2.St}{H:Hp}{s:Shared}{Q:VK}{us:List Value}{vs:List V}(G:FnOk X.prog X.w X.K X.mg X.base (CXW X.prog X.w ca) k f fd ps (spM X.K ca n F))(hr:Room k X.A)(hb:Binds X.K fd ps [])(I:Inv (xat X ca pn Φ) pins σ H s)(r:Vals vs us)(h:spM X.K ca n F vs H Q (EK Φ σ)):wpAny (model X.prog X.w) X.A (call (.ref f) us) (EP (xat X ca pn Φ) pins σ Q) (xat X ca pn Φ).xe s:=by
 have hl:(us++[]).length=ps.length:=by rw[UW,<-r.length];exact G.len _ _ _ _ h
 have b:=hb s us I.kIn hl
 rw[UW]at b
 refine WT (RZ (G.run X.A X.stack s H ⟨us,[]⟩ us vs Q (EK Φ σ) hr I.env0 b r h) λres s' hq=>?_)
 cases res with
 |error z=>exact QhY I hq
 |ok fl =>
  cases fl with
  |ret u=>exact I.after hq
  |_=>exact False.elim hq
theorem Qs{x:Str}(h:FnH X.prog X.w X.K X.mg X.base ca x k n F)(hr:Room k X.A)(ha:PA3 ca X (e::es) mr)(hg:Gl X x:=by rfl)(hdb:(x == ("__debug__" : Str))=false:=by decide)(he:starEach (e::es) X.env=(false,eval e X.env)::starEach es X.env:=by rfl)(hpl:(backTo pos (starEach es X.env)).any (·.1)=false:=by rfl):PE3 ca X (.Call (.Name x p) (e::es) [] pos) (Qr F mr):=by
 obtain⟨f,fd,ps,F1,m1,k1,b1⟩:=h.ex
 intro pn Φ pins s σ H Q I ⟨σ3,g,μ,R,q⟩
 refine TR (Qcv I hg m1 ?_ hdb)
 have z:upA X.K ca Φ mr σ H λvs H1=>spM X.K ca n F vs H1 Q (EK Φ σ):=Qbp (Qgg R q) λxs H1 ⟨ds,g1,μ1,e1,R1,q1,p1⟩=>Qku h.st R1.g q1 p1
 refine callWith_K (h₀:=X.base) I.ok.mod.kin k1 (thn (ha pn Φ pos pins s σ H _ I z) λus s1 ⟨vs,H1,I1,r,q1⟩=>⟨I1.kIn,?_⟩) he hpl
 exact QmS F1 hr b1 I1 r q1
theorem QmT{c:Nat}{x:Str}(h:MkH X.prog X.w X.K X.mg X.base ca c x k n F)(hr:Room (k+1) X.A)(ha:PA3 ca X (e::es) mr)(hg:Gl X x:=by rfl)(hdb:(x == ("__debug__" : Str))=false:=by decide)(he:starEach (e::es) X.env=(false,eval e X.env)::starEach es X.env:=by rfl)(hpl:(backTo pos (starEach es X.env)).any (·.1)=false:=by rfl):PE3 ca X (.Call (.Name x p) (e::es) [] pos) (QhR c F mr):=by
 obtain⟨f,fd,ps,F1,m1,k1,b1⟩:=h.ex
 intro pn Φ pins s σ H Q I ⟨σ3,g,μ,R,q⟩
 refine TR (Qcv I hg k1 ?_ hdb)
 have z:upA X.K ca Φ mr σ H λvs H1=>∀y dy,H1 y=none->H1 dy=none->dy≠y->spM X.K ca n F (.ref y::vs) (upd (upd H1 dy (.own y)) y (.ins (ca c) dy [])) (λv H2=>v=.non/\Q (.ref y) H2) (EK Φ σ) :=
  Qbp (Qgg R q) λxs H1 ⟨ds,g1,μ1,e1,R1,q1,p1⟩ y dy hy hdy ne=>by
   have hy2:(upd H1 dy (.own y)) y=none:=by rw[QP (Ne.symm ne)];exact hy
   have ex1:Ext X.K μ1 H1 μ1 (upd H1 dy (.own y)):=Zy hdy
   have g2:=R1.g.new (o:=.own y) hdy
   have ex2:Ext X.K μ1 (upd H1 dy (.own y)) (μ1++[y]) (upd (upd H1 dy (.own y)) y (.ins (ca c) dy [])):=Q4 hy2
   have g3:GRep X.K ca (μ1++[y]) (upd (upd H1 dy (.own y)) y (.ins (ca c) dy [])) (g1++[.ins c []]):=g2.push hy2 ⟨dy,[],QN,.nil⟩
   have ey:(μ1++[y])[g1.length]?=some y:=by rw[<-R1.g.len];simp
   refine Qku (Φ:=Φ) (σ:=σ) h.st g3 (.cons (.ref ey) ((q1.mono ex1).mono ex2)) ?_
   cases hF:F (D.ref g1.length::ds) (g1++[.ins c []]) with
   |stuck=>rw[hF]at p1;exact p1.elim
   |raise _ _=>rw[hF]at p1;exact RaP.go (ex1.trans ex2) p1
   |ok d g4 =>
    rw[hF,Res.bind_ok]at p1
    intro v H' μ' e' r' q'
    cases q' with
    |non=>exact⟨rfl,p1 _ H' μ' ((ex1.trans ex2).trans e') r' (.ref (e'.at ey))⟩
    |_=>exact p1.elim
 refine callWith_K (h₀:=X.base) I.ok.mod.kin m1.kp (thn (ha pn Φ pos pins s σ H _ I z) λus s1 ⟨vs,H1,I1,r,q1⟩=>⟨I1.kIn,?_⟩) he hpl
 have hq:=q1 (s1.heap.objs.size+1) s1.heap.objs.size (I1.hok.fresh (Nat.le_succ _)) (I1.hok.fresh (Ul _)) (UI (U4 _))
 have I2:=Inv.made (C:=ca c) I1
 have r2:Vals (V.ref (s1.heap.objs.size+1)::vs) (Value.ref (s1.heap.objs.size+1)::us):=.cons rfl r
 have hl:(Value.ref (s1.heap.objs.size+1)::us++[]).length=ps.length:=by
  have w:=r2.length
  rw[F1.len _ _ _ _ hq]at w
  rw[UW]
  exact w.symm
 have b2:=b1 _ (Value.ref (s1.heap.objs.size+1)::us) I2.kIn hl
 rw[UW]at b2
 refine WT (Qjr (f:=f) I1.kIn m1.makes m1.init (U0.mp m1.fn) (RZ (F1.run _ X.stack _ _ ⟨Value.ref (s1.heap.objs.size+1)::us,[]⟩ (Value.ref (s1.heap.objs.size+1)::us) _ _ (EK Φ σ) (hr.make (ca c) us [])
  (I2.env0.make (ca c) us []) b2 r2 hq) λres s' hq'=>?_))
 cases res with
 |error z=>exact QhY I2 hq'
 |ok fl =>
  cases fl with
  |ret u =>
   obtain⟨v,H',I3,rv,ev,q3⟩:=I2.after hq'
   subst ev
   exact⟨rv,⟨V.ref (s1.heap.objs.size+1),H',I3,rfl,q3⟩⟩
  |_=>exact False.elim hq'
end
section
variable{X:Cx}{ca:Nat->Addr}{tg e:Expr}{me:ME}{mr:MA}{p pos:Pos}
theorem Qfx{X:Cx}{tg iter:Expr}{t t':TI}(h:PI X tg iter t)(i:∀σ H R,t' σ H R->t σ H R):PI X tg iter t':=λpins s σ H R I q=>h pins s σ H R I (i σ H R q)
theorem Qh4(K:Frag)(μ:List Addr)(H:Hp)(lo:Int)(n:Nat):Sim K ca μ H (Zw lo n) (Itr lo n):=by
 intro i H1 μ1 g1 e r
 unfold Zw
 dsimp only
 by_cases h:i<n
 ·rw[Uh h]
  exact⟨h,λx H' y=>by obtain⟨rfl,rfl⟩:=y;exact⟨.refl,r,.int _⟩⟩
 ·rw[Um h]
  exact Ra h
theorem Qlf{K:Frag}{μ:List Addr}{H:Hp}{a:Addr}{vs:List V}{ds:List D}(h:SqT K H a vs)(q:Dens K μ H vs ds):Sim K ca μ H ⟨λ_ i=>some ds[i]?,ds.length⟩ (Itt K a):=by
 intro i H1 μ1 g1 e r
 dsimp only
 cases hd:ds[i]? with
 |none =>
  refine⟨vs,e.tup _ _ h,?_⟩
  rw[q.length]
  exact Ta.mp hd
 |some d =>
  obtain⟨v,h1,h2⟩:=q.get hd
  refine⟨⟨vs,v,e.tup _ _ h,h1⟩,λx H' y=>?_⟩
  obtain⟨rfl,y⟩:=y
  have:=y vs (e.tup _ _ h)
  rw[h1]at this;cases this
  exact⟨.refl,r,h2.mono e⟩
theorem Qlg{K:Frag}{μ:List Addr}{H:Hp}{a:Addr}{n t:Nat}(hn:μ[n]?=some a):Sim K ca μ H ⟨λg i=>(match g[n]? with|some (.lst es)=>some es[i]? | _=>none),t⟩ (Itl K a):=by
 intro i H1 μ1 g1 e r
 dsimp only
 cases hg:g1[n]? with
 |none=>trivial
 |some o =>
  cases o with
  |lst ds =>
   dsimp only
   obtain⟨a',ha',vs,hH,q⟩:=r.addr hg
   rw[e.at hn]at ha';cases ha'
   cases hd:ds[i]? with
   |none =>
    refine⟨vs,.of hH,?_⟩
    rw[q.length]
    exact Ta.mp hd
   |some d =>
    obtain⟨v,h1,h2⟩:=q.get hd
    refine⟨⟨vs,v,.of hH,h1⟩,λx H' y=>?_⟩
    obtain⟨rfl,y⟩:=y
    have:=y vs (.of hH)
    rw[h1]at this;cases this
    exact⟨.refl,r,h2⟩
  |_=>trivial
theorem QmU{K:Frag}{μ:List Addr}{H:Hp}{a:Addr}{vs:List V}{ds:List D}(h:SqF K H a vs)(q:Dens K μ H vs ds):Sim K ca μ H ⟨λ_ i=>some ds[i]?,ds.length⟩ (Itl K a):=by
 intro i H1 μ1 g1 e r
 dsimp only
 have sq:SqL K H1 a vs:=(e.fl _ _ h).sq
 cases hd:ds[i]? with
 |none =>
  refine⟨vs,sq,?_⟩
  rw[q.length]
  exact Ta.mp hd
 |some d =>
  obtain⟨v,h1,h2⟩:=q.get hd
  refine⟨⟨vs,v,sq,h1⟩,λx H' y=>?_⟩
  obtain⟨rfl,y⟩:=y
  have:=y vs sq
  rw[h1]at this;cases this
  exact⟨.refl,r,h2.mono e⟩
theorem QmV{l:Expr}{tl:TE}(hl:PE X l tl):PI X tg l (λσ H R=>tl σ H λx H1=>(∃a,x=.ref a/\(∃xs,SqL X.K H1 a xs)/\R (Itl X.K a) H1)\/∃a,x=.ref a/\(∃xs,SqT X.K H1 a xs)/\R (Itt X.K a) H1):=by
 intro pins s σ H R I h
 refine thn (hl pins s σ H _ I h) λv s1 ⟨x,H1,I1,r1,q1⟩=>?_
 rcases q1 with⟨a,e,⟨xs,hq⟩,q⟩|⟨a,e,⟨xs,hq⟩,q⟩
 ·subst e
  cases r1
  obtain⟨its,rv,p,hz⟩:=I1.list hq
  refine RM p.isList ?_
  refine⟨s1.heap.objs.size,[s1.heap.objs.size],_,_,H1,rfl,I1.kept (t':=s1.toks) λb o e=>Ub _ e,Qhz a _,⟨_,Ur _ rfl,rfl,rfl⟩,λb hb=>?_,q⟩
  have e:b=s1.heap.objs.size:=by simpa using hb
  subst e
  exact I1.fpOk (Ul _) (I1.hok.fresh (Ul _))
 ·subst e
  cases r1
  obtain⟨its,rv,p,hz⟩:=I1.tuple hq
  refine RF (show s1.heap.IsTuple a its.toArray from p) ?_
  refine⟨s1.heap.objs.size,[s1.heap.objs.size],_,_,H1,rfl,I1.kept (t':=s1.toks) λb o e=>Ub _ e,QgN a _,⟨_,Ur _ rfl,rfl,rfl⟩,λb hb=>?_,q⟩
  have e:b=s1.heap.objs.size:=by simpa using hb
  subst e
  exact I1.fpOk (Ul _) (I1.hok.fresh (Ul _))
theorem Yd(he:PE3 ca X e me):PI3 ca X tg e (QX me) :=
 λpn Φ=>Qfx (QmV (X:=xat X ca pn Φ) (he pn Φ)) λσ H R hQ=>by
  obtain⟨σ3,g,μ,Rp,p⟩:=hQ
  unfold QX at p
  refine⟨σ3,g,μ,Rp,?_⟩
  cases hm:me σ3 g with
  |raise _ _=>rw[hm]at p;exact p
  |stuck=>rw[hm]at p;exact p.elim
  |ok d g1 =>
   rw[hm,Res.bind_ok]at p
   intro v H1 μ1 e1 r1 q1
   unfold Qdt at p
   cases q1 with
   |@tup a vs ds ht hs =>
    exact .inr ⟨a,rfl,⟨vs,ht⟩,p _ H1 μ1 e1 r1 (Qlf ht hs)⟩
   |@fl a vs ds ht hs=>exact .inl ⟨a,rfl,⟨vs,ht.sq⟩,p _ H1 μ1 e1 r1 (QmU ht hs)⟩
   |@ref n a hn =>
    dsimp only at p
    cases hg:g1[n]? with
    |none=>rw[hg]at p;exact p.elim
    |some o =>
     rw[hg]at p
     obtain⟨a',ha',orp⟩:=r1.addr hg
     rw[hn]at ha';cases ha'
     cases o with
     |lst ds=>obtain⟨vs,hH,q⟩:=orp;exact .inl ⟨a,rfl,⟨vs,.of hH⟩,p _ H1 μ1 e1 r1 (Qlg hn)⟩
     |_=>exact p.elim
   |_=>exact p.elim
theorem QaN(hm:X.mg "range" = none)(he:PE3 ca X e me)(hg:Gl X "range":=by rfl)(hs:starEach [e] X.env=[(false,eval e X.env)]:=by rfl):PI3 ca X tg (.Call (.Name "range" p) [e] [] pos) (Zi me) :=
 λpn Φ=>Qfx (QhA (X:=xat X ca pn Φ) hg hm (Qa0 he Qf hs pn Φ) hs) λσ H R hQ=>by
  obtain⟨σ3,g,μ,Rp,p⟩:=hQ
  refine⟨σ3,g,μ,Rp,?_⟩
  unfold Zi at p
  unfold Qa mNil
  cases hm:me σ3 g with
  |raise _ _=>rw[hm]at p;exact p
  |stuck=>rw[hm]at p;exact p.elim
  |ok d g1 =>
   rw[hm,Res.bind_ok]at p
   rw[Res.bind_ok,Res.bind_ok]
   intro vs H1 μ1 e1 r1 q1
   cases q1 with
   |cons h1 h2 =>
    cases h2
    cases h1 with
    |int j =>
     dsimp only at p
     by_cases hj:inR j
     ·rw[Uh hj]at p
      exact⟨j,rfl,hj.1,hj.2,p _ H1 μ1 e1 r1 (Qh4 X.K μ1 H1 0 j.toNat)⟩
     ·rw[Um hj]at p;exact p.elim
    |_=>exact p.elim
end
noncomputable def blk(X:Cx)(scope:Scope)(cl:List (Str×Addr))(C:Addr)(Nb:List Str)(s3:Shared)(H3:Hp)(ex:List Addr):Cx :=
 {X with env:=compEnvC scope cl C X.env,N:=Nb,s₀:=s3,H₀:=H3,outer:=X.stack,stack:=X.stack,ex:=ex,fn:=λ_=>false,pn:=[],xe:=λ_ _=>False}
structure BScope(X:Cx)(scope:Scope)(Nb:List Str)(no:Nat)(cap:List Nat):Prop where
 kind:scope.kind=.function
 cell:∀y∈scope.names,y.2≠.cell
 loc:∀y∈scope.names,y.2=.local->scope.names.lookup y.1=some .local
 free:∀y∈scope.names,y.2=.free->X.env.kindOf y.1=some .cell\/X.env.kindOf y.1=some .free
 len:Nb.length=no+cap.length
 cap:∀(j i:Nat),cap[j]?=some i->∃x,Nb[no+j]?=some x/\X.N[i]?=some x/\scope.names.lookup x=some .free/\Vis X.env.scope x/\X.env.kindOf x≠some .local
noncomputable def clOf(cells:List (Str×Addr)):List (Str×NameKind)->List (Str×Addr)->Option (List (Str×Addr))
 |[],cs=>some cs
 | (n,k)::r,cs=>if (k == .free)=true then (match cells.lookup n with
  |some a=>clOf cells r ((n,a)::cs)
  |none=>none) else clOf cells r cs
theorem QbQ{env:Env}:∀(names:List (Str×NameKind))(cs cl:List (Str×Addr)),clOf env.cells names cs=some cl ->
  (forIn names cs λ(x:Str×NameKind)(r:List (Str×Addr))=>(match x with
   | (name,kind)=>if (kind == .free)=true then (do let a <-cellOf env name;pure (ForInStep.yield ((name,a)::r))) else pure (ForInStep.yield r):Sem (ForInStep (List (Str×Addr)))))=(pure cl:Sem (List (Str×Addr)))
 |[],cs,cl,h=>by cases h;rfl
 | (n,k)::r,cs,cl,h=>by
  unfold clOf at h
  rw[Rm]
  by_cases hk:(k == .free)=true
  ·rw[Uh hk]at h
   cases hl:env.cells.lookup n with
   |none=>rw[hl]at h;cases h
   |some a =>
    rw[hl]at h
    dsimp only at h ⊢
    rw[Uh hk]
    unfold cellOf
    rw[hl]
    exact QbQ r _ cl h
  ·rw[Um hk]at h
   dsimp only
   rw[Um hk]
   exact QbQ r _ cl h
theorem Qbq{scope:Scope}{env:Env}{cl:List (Str×Addr)}(h:clOf env.cells scope.names []=some cl):closureFor scope env=pure cl:=by
 have q:=QbQ (env:=env) scope.names [] cl h
 unfold closureFor
 exact Wr (λt=>t >>= λr=>(pure r:Sem _)) q
theorem Qbr{cells:List (Str×Addr)}:∀(names:List (Str×NameKind))(cs:List (Str×Addr)),(∀y∈names,y.2=.free->∃c,cells.lookup y.1=some c)->∃cl,clOf cells names cs=some cl
 |[],cs,_=>⟨cs,rfl⟩
 | (n,k)::r,cs,h=>by
  unfold clOf
  by_cases hk:(k == .free)=true
  ·rw[Uh hk]
   obtain⟨c,e⟩:=h (n,k) UH (U0.mp hk)
   rw[show cells.lookup n=some c from e]
   exact Qbr r _ λy hy=>h y (Uz _ hy)
  ·rw[Um hk]
   exact Qbr r _ λy hy=>h y (Uz _ hy)
theorem Jg{cells:List (Str×Addr)}:∀(names:List (Str×NameKind))(cs cl:List (Str×Addr)),clOf cells names cs=some cl->(∀x c,cs.lookup x=some c->cells.lookup x=some c)->∀x c,cl.lookup x=some c->cells.lookup x=some c
 |[],cs,cl,h,hc=>by cases h;exact hc
 | (n,k)::r,cs,cl,h,hc=>by
  unfold clOf at h
  by_cases hk:(k == .free)=true
  ·rw[Uh hk]at h
   cases hl:cells.lookup n with
   |none=>rw[hl]at h;cases h
   |some a =>
    rw[hl]at h
    refine Jg r _ cl h λx c e=>?_
    by_cases z:x=n
    ·subst z
     simp only[List.lookup,Tn]at e
     cases e
     exact hl
    ·have zb:(x == n)=false:=Tg.mpr z
     simp only[List.lookup,zb]at e
     exact hc x c e
  ·rw[Um hk]at h
   exact Jg r _ cl h hc
theorem Qck{cells:List (Str×Addr)}:∀(names:List (Str×NameKind))(cs cl:List (Str×Addr)),clOf cells names cs=some cl->∀x,(x∈names.filterMap λy=>if (y.2 == .free)=true then some y.1 else none)\/(∃c,cs.lookup x=some c)->∃c,cl.lookup x=some c
 |[],cs,cl,h,x,hx=>by
  cases h
  rcases hx with hx|hx
  ·simp at hx
  ·exact hx
 | (n,k)::r,cs,cl,h,x,hx=>by
  unfold clOf at h
  by_cases hk:(k == .free)=true
  ·rw[Uh hk]at h
   cases hl:cells.lookup n with
   |none=>rw[hl]at h;cases h
   |some a =>
    rw[hl]at h
    refine Qck r _ cl h x ?_
    by_cases z:x=n
    ·subst z
     exact .inr ⟨a,by simp[List.lookup]⟩
    ·have zb:(x == n)=false:=Tg.mpr z
     rcases hx with hx|⟨c,hx⟩
     ·rw[Th]at hx
      simp only[hk,T8]at hx
      rcases Ui.mp hx with e|e
      ·exact absurd e z
      ·exact .inl e
     ·exact .inr ⟨c,by simp only[List.lookup,zb];exact hx⟩
  ·rw[Um hk]at h
   refine Qck r _ cl h x ?_
   rcases hx with hx|hx
   ·rw[Th]at hx
    simp only[hk]at hx
    exact .inl (by simpa using hx)
   ·exact .inr hx
theorem QcC{names:List (Str×NameKind)}{x:Str}(h:names.lookup x=some .free):x∈names.filterMap λy=>if (y.2 == .free)=true then some y.1 else none :=
 RC.mpr ⟨(x,.free),Tj h,by simp⟩
theorem Qal{env:Env}:∀{names:List (Str×NameKind)}{x:Str}{k:NameKind},(∀y∈names,y.2≠.cell) ->
  (names.map λ(n,k)=>if (k == NameKind.free && env.scope.kind == .function && env.kindOf n == some .cell) then (n,NameKind.cell) else (n,k)).lookup x=some k->(k=.cell\/k=.free)->names.lookup x=some .free
 |[],_,_,_,h,_=>by cases h
 | (n,k0)::r,x,k,hn,h,hk=>by
  have ih:=@Qal env r x k λy hy=>hn y (Uz _ hy)
  rw[UY]at h
  by_cases hc:(k0 == NameKind.free && env.scope.kind == .function && env.kindOf n == some .cell)=true
  ·have k0f:k0=.free:=by
    simp only[Uu]at hc
    exact U0.mp hc.1.1
   dsimp only at h
   rw[Uh hc]at h
   cases hx:x == n with
   |true=>simp only[List.lookup,hx];rw[k0f]
   |false=>simp only[List.lookup,hx]at h ⊢;exact ih h hk
  ·dsimp only at h
   rw[Um hc]at h
   cases hx:x == n with
   |true =>
    simp only[List.lookup,hx]at h ⊢
    cases h
    rcases hk with e|e
    ·exact absurd e (hn (n,k0) UH)
    ·rw[e]
   |false=>simp only[List.lookup,hx]at h ⊢;exact ih h hk
theorem QeV{prog:Program}{w:World}{A:Around}{R:Result->Shared->Prop}{s:Shared}{elt target iter:Expr}{ifs:List Expr}{scope:Scope}{pos:Pos}{it acc:Value}{env:Env}(I:Nat->Shared->Prop)(turn:∀n s,I n s->wpAny (model prog w) A (pyNext it) (λr s₁=>match r with
   |none=>R (.ok .next) s₁
   |some v=>wpAny (model prog w) A (letOwnedTupleGo target it v) (λ_ s1'=>wpAny (model prog w) A (assign target env v) (λ_ s₂ =>
     wpAny (model prog w) A (forIn ifs true λc r=>if r=true then do let ok <-isTrue c env (eval c env);pure (ForInStep.yield ok) else pure (ForInStep.yield r)) (λok s₃ =>
      if ok=true then wpAny (model prog w) A (eval elt env) (λx s₄ =>
       wpAny (model prog w) A (call (.builtin "list.append") [acc,x]) (λ_ s₅=>∃m,m<n/\I m s₅) (λ_ _=>False) s₄) (λ_ _=>False) s₃
      else ∃m,m<n/\I m s₃) (λ_ _=>False) s₂) (λ_ _=>False) s1') (λ_ _=>False) s₁) (λ_ _=>False) s)(n:Nat)(h:I n s):codeAny (model prog w) A (.compLoop (.ListComp elt [⟨target,iter,ifs,0⟩] scope pos) 0 it acc env) R s:=by
 refine codeAny_loop rfl I (λn s hI=>?_) n h
 show wpAny _ A ((compTurn (.ListComp elt [⟨target,iter,ifs,0⟩] scope pos) 0 it acc env).onRaise (λx=>do noteFrame x env;theTreesLotGoes x)) _ _ s
 refine wpAny_noted ?_
 rw[compTurn_list]
 refine Ua (wpAny_standAt (Ua (UV (turn n s hI) (λr s₁ h₁=>?_) λ_ _ h'=>h'.elim)))
 cases r with
 |none=>exact Uj h₁
 |some v =>
  refine Ua (UV h₁ (λ_ s1' h1'=>?_) λ_ _ h'=>h'.elim)
  refine Ua (UV h1' (λ_ s₂ h₂=>Ua (UV h₂ (λok s₃ h₃=>?_) λ_ _ h'=>h'.elim)) λ_ _ h'=>h'.elim)
  cases ok with
  |false=>exact Uj ⟨rfl,h₃⟩
  |true =>
   exact Ua (Ua (UV h₃ (λx s₄ h₄=>Ua (UV h₄ (λ_ s₅ h₅=>Uj (Uj ⟨rfl,h₅⟩)) λ_ _ h'=>h'.elim)) λ_ _ h'=>h'.elim))
theorem Inv.track{X:Cx}{pins:List (Addr×Obj)}{σ:L2.St}{H:Hp}{s:Shared}{a:Addr}{o:HO}(I:Inv X pins σ H s)(ha:FpOk X pins H a)(new:ObjOk X.prog X.w (upd H a o) s.heap a o):Inv X pins σ (upd H a o) s:=by
 obtain⟨f0,f1,f2,f3,f4,f5⟩:=ha
 have ne:∀b u,H b=some u->b≠a:=λb u e=>Zg e f0
 refine I.step (h':=s.heap) (g':=s.gens) (t':=s.toks) (d':=s.drawn) (ch:=[a]) (λb hb=>?_) (λb o _ _ _ e _=>e) (λb o _ _ _ e _=>⟨o.slots,e⟩) (λb o hb e n=>?_) (λb o _ e=>⟨o,e⟩)
  (λb xs e=>by rw[QP (ne b _ e)];exact e) (λb o u e=>by rw[QP (ne b _ e)];exact e) (λb ps e=>⟨#[],by rw[QP (ne b _ e),e];simp⟩) (λ_ h=>h) (λb u e=>?_) I.bare
 ·have e:b=a:=by simpa using hb
  subst e
  exact⟨f3,f1,f4,f5⟩
 ·rw[QP (λz=>hb (by simp[z]))];exact n
 ·by_cases hb:b=a
  ·subst hb;rw[QN]at e;cases e;exact new
  ·rw[QP hb]at e
   exact(I.hok b u e).stay (λ_ _ _ q=>q) (λc q=>by rw[QP (ne c _ q)];exact q) λc xs q=>by rw[QP (ne c _ q)];exact q
theorem FpOk.mono{X:Cx}{pins:List (Addr×Obj)}{H H':Hp}{b:Addr}(h:FpOk X pins H b)(n:H' b=none):FpOk X pins H' b:=⟨n,h.2⟩
noncomputable abbrev F0:XS:=λ_ _ _=>False
theorem noX{α:Type}{M:Model}{A:Around}{X:Cx}{ca:Nat->Addr}{t:Sem α}{Q:α->Shared->Prop}{s:Shared}(h:wpAny M A t Q (XE X ca F0) s):wpAny M A t Q (λ_ _=>False) s:=UV h (λ_ _ z=>z) λ_ _ ⟨_,_,_,_,_,_,_,z⟩=>z
noncomputable def PIf(ca:Nat->Addr)(X:Cx)(ifs:List Expr)(m:MT):Prop :=
 ∀(pins:List (Addr×Obj))(s:Shared)(σ:L2.St)(H:Hp)(Q:Bool->Hp->Prop),Inv (xat X ca [] F0) pins σ H s->upT X.K ca F0 m σ H Q ->
  wpAny (model X.prog X.w) X.A (forIn ifs true λc r=>if r=true then do let ok <-isTrue c X.env (eval c X.env);pure (ForInStep.yield ok) else pure (ForInStep.yield r)) (TP (xat X ca [] F0) pins σ Q) (λ_ _=>False) s
theorem QcD{X:Cx}{ca:Nat->Addr}:PIf ca X [] ZX:=by
 intro pins s σ H Q I ⟨_,_,μ,R,p⟩
 rw[RH]
 exact Uj ⟨H,I,p H μ .refl R.g⟩
theorem QnZ{X:Cx}{ca:Nat->Addr}{c:Expr}{m:MT}(h:PT3 ca X c m):PIf ca X [c] m:=by
 intro pins s σ H Q I q
 exact wpAny_tests_one (noX (h [] F0 pins s σ H Q I q))
section
variable{X:Cx}{ca:Nat->Addr}{pn:List (Addr×Obj)}
theorem QmW{scope:Scope}{Nb:List Str}{no:Nat}{cap:List Nat}{cl:List (Str×Addr)}{pins:List (Addr×Obj)}{σ:L2.St}{H:Hp}{s:Shared}{ex:List Addr}(B:BScope X scope Nb no cap)(hcl:clOf X.env.cells scope.names []=some cl)(I:Inv (xat X ca pn F0) pins σ H s)(hex:∀b∈ex,FpOk (xat X ca pn F0) pins H b)(hlt:∀b∈ex,b<s.heap.objs.size):(xat (blk X scope cl s.heap.objs.size Nb s H ex) ca [] F0).Ok where
 mod:=I.ok.mod
 kind:=B.kind
 glob:=I.ok.glob
 blt:=I.ok.blt
 above:=Ul _
 inj:=λx y c h1 h2=>I.ok.inj x y c (Jg _ _ _ hcl (λ_ _ z=>by cases z) x c h1) (Jg _ _ _ hcl (λ_ _ z=>by cases z) y c h2)
 has:=λx hx=>Qck _ _ _ hcl x (.inl (QcC (by
  rcases hx with hx|hx
  ·exact Qal B.cell hx (.inl rfl)
  ·exact Qal B.cell hx (.inr rfl))))
 cab:=λ_ _ z=>by cases z
 hd:=I.ok.hd
 frames:=I.ok.frames
 stk:=.inl rfl
 exf:=λb hb=>⟨UI (hlt b hb),λx c e z=>(hex b hb).2.2.2.2.1 x c (Jg _ _ _ hcl (λ_ _ z=>by cases z) x c e) z⟩
 bs:=I.bs
 bsz:=Uw I.ok.bsz I.sz
 noex:=λb o e hb=>by
  rcases(hex b hb).2.2.2.1 with z|z
  ·exact I.ok.noex b o e z
  ·exact absurd (Ux (Uk e) (Uw I.ok.bsz z)) (Tl _)
 exfs:=λb hb z=>by
  rcases Ui.mp (I.stkSub b z) with e|e
  ·exact(hex b hb).2.1 e
  ·exact(hex b hb).2.2.1 e
 funs:=I.stack
 frf:=I.stkFree
theorem JA{env:Env}:∀{names:List (Str×NameKind)}{x:Str},names.lookup x=some .free ->
  (names.map λ(n,k)=>if (k == NameKind.free && env.scope.kind == .function && env.kindOf n == some .cell) then (n,NameKind.cell) else (n,k)).lookup x=some .local->False
 |[],_,h,_=>by cases h
 | (n,k0)::r,x,h,h'=>by
  have ih:=@JA env r x
  rw[UY]at h'
  dsimp only at h'
  by_cases hc:(k0 == NameKind.free && env.scope.kind == .function && env.kindOf n == some .cell)=true
  ·rw[Uh hc]at h'
   cases hx:x == n with
   |true=>simp only[List.lookup,hx]at h';cases h'
   |false=>simp only[List.lookup,hx]at h h';exact ih h h'
  ·rw[Um hc]at h'
   cases hx:x == n with
   |true=>simp only[List.lookup,hx]at h h';rw[h']at h;cases h
   |false=>simp only[List.lookup,hx]at h h';exact ih h h'
theorem Qjy{K:Frag}{ca:Nat->Addr}{μ2:List Addr}{σ3:S3}{g1:G}{σ:L2.St}{H2:Hp}(no:Nat)(cap:List Nat)(R2:Rep K ca μ2 σ3 g1 σ H2):Rep K ca μ2 (capt no cap σ3) g1 (List.replicate no none++cap.map λi=>(σ[i]?).getD none) H2:=by
 refine⟨R2.g,?_,λi d h=>?_⟩
 ·unfold capt
  rw[Ut,Ut,US,US,Ud,Ud]
 ·unfold capt at h
  have hi:no<=i:=by
   apply Ra
   intro hlt
   rw[UC (by simpa using hlt),Tw,Uh hlt]at h
   cases h
  rw[UJ (by simpa using hi),US,UB]at h ⊢
  cases hcp:cap[i-no]? with
  |none=>rw[hcp]at h;cases h
  |some j =>
   rw[hcp]at h
   have h:(σ3[j]?).getD none=some d:=by simpa using h
   have hs:σ3[j]?=some (some d):=by
    cases z:σ3[j]? with
    |none=>rw[z]at h;cases h
    |some w=>rw[z]at h;have h:w=some d:=h;rw[h]
   obtain⟨v,h1,h2⟩:=R2.st j d hs
   exact⟨v,by simp[h1],h2⟩
theorem QeW{tg iter elt:Expr}{ifs:List Expr}{scope:Scope}{pos:Pos}{Nb:List Str}{no:Nat}{cap:List Nat}{cl:List (Str×Addr)}{f:MG}{tc:MT}{me:ME}{src:Src}{pins:List (Addr×Obj)}{σ:L2.St}{σ3:S3}{H2:Hp}{s2:Shared}{μ2:List Addr}{g1 g2:G}{ds:List D}{it:Addr}{fp:List Addr}{tn:Nat->Heap->Prop}{J:It}{RR:Value->Addr->Result->Shared->Prop}{E:Value->Shared->Prop}(B:BScope X scope Nb no cap)(hc:X.calm=true)(hb:∀cl C s3 H3 ex,PG3 ca (blk X scope cl C Nb s3 H3 ex) tg f/\PIf ca (blk X scope cl C Nb s3 H3 ex) ifs tc/\PE3 ca (blk X scope cl C Nb s3 H3 ex) elt me)(hcl:clOf X.env.cells scope.names []=some cl)(I2:Inv (xat X ca pn F0) pins σ H2 s2)(T:Turn X.prog X.w X.K tg J fp it tn)(st2:tn 0 s2.heap)(f2:∀b∈fp,FpOk (xat X ca pn F0) pins H2 b)(R2:Rep X.K ca μ2 σ3 g1 σ H2)(sim:Sim X.K ca μ2 H2 src J)(hz:src.top<=SZ)(hL:Jq src f tc me (src.top+1) 0 (capt no cap σ3) g1 []=.ok ds g2)(fin:∀(D C:Addr) (s':Shared) (H4:Hp) (μ4:List Addr) (accV:List V) (its:List Value) (k:Nat),Inv (xat X ca pn F0) pins σ H4 s'->(∃m,s'.heap.Ns C m)->FpOk (xat X ca pn F0) pins H4 C->FpOk (xat X ca pn F0) pins H4 D->D≠C ->
   s'.heap.get? D=some {cls:=.type "list",data:=.seq its.toArray k}->Vals accV its->accV.length<=sizeLine->Ext X.K μ2 H2 μ4 H4->GRep X.K ca μ4 H4 g2->Dens X.K μ4 H4 accV ds->RR (.ref D) C (.ok .next) s'):
  wpAny (model X.prog X.w) X.A (newList []) (λacc s₃=>wpAny (model X.prog X.w) X.A (newFunctionEnv scope X.env.globals cl [] X.env.qual none .none (some X.env)) (λcenv s₄ =>
   codeAny (model X.prog X.w) X.A (.compStart (.ListComp elt [⟨tg,iter,ifs,0⟩] scope pos) 0 (.ref it) acc {cenv with scope:=relabel scope X.env}) (RR acc cenv.locals) s₄) E s₃) E s2:=by
 refine U6 (wpAny_newFunctionEnv B.cell (by intro y hy;simp at hy) (λh₁ hns₁ hsb₁=>?_) B.kind)
 dsimp only at hns₁ hsb₁ ⊢
 generalize hH2:s2.heap.push {cls:=.type "list",dict:=none,data:=.seq ([]:List Value).toArray}=hp at hns₁ hsb₁ ⊢
 have hC:hp.objs.size=s2.heap.objs.size+1:=by rw[<-hH2,U8]
 have I3:Inv (xat X ca pn F0) pins σ H2 {s2 with heap:=hp}:=by rw[<-hH2];exact I2.kept (t':=s2.toks) λb o e=>Ub _ e
 have hD3:hp.get? s2.heap.objs.size=some {cls:=.type "list",data:=.seq ([]:List Value).toArray}:=by rw[<-hH2];exact Ur _ rfl
 have fD:FpOk (xat X ca pn F0) pins H2 s2.heap.objs.size:=I2.fpOk (Ul _) (I2.hok.fresh (Ul _))
 have fC:FpOk (xat X ca pn F0) pins H2 hp.objs.size:=I3.fpOk (Ul _) (I3.hok.fresh (Ul _))
 have fplt:∀b∈fp,b<s2.heap.objs.size:=λb hb=>by
  obtain⟨o,e,_⟩:=T.obj 0 _ st2 b hb
  exact Uk e
 have DnF:s2.heap.objs.size∉fp:=λh=>Tl _ (fplt _ h)
 have DnC:s2.heap.objs.size≠hp.objs.size:=by rw[hC];exact UI (U4 _)
 have exOk:∀b∈s2.heap.objs.size::fp,FpOk (xat X ca pn F0) pins H2 b:=λb hb=>by
  rcases Ui.mp hb with e|e
  ·rw[e];exact fD
  ·exact f2 b e
 have exLt:∀b∈s2.heap.objs.size::fp,b<hp.objs.size:=λb hb=>by
  rcases Ui.mp hb with e|e
  ·rw[e,hC];exact U4 _
  ·rw[hC];exact Nat.lt_succ_of_lt (fplt b e)
 have okb:(xat (blk X scope cl hp.objs.size Nb {s2 with heap:=hp} H2 (s2.heap.objs.size::fp)) ca [] F0).Ok:=QmW (s:={s2 with heap:=hp}) B hcl I3 exOk exLt
 obtain⟨hgB,hiB,heB⟩:=hb cl hp.objs.size {s2 with heap:=hp} H2 (s2.heap.objs.size::fp)
 have old:∀b o,hp.get? b=some o->h₁.get? b=some o:=λb o e=>hsb₁.extBut b o (UI (Uk e)) (Ub _ e)
 -- the block's first state
 have Ib:Inv (xat (blk X scope cl hp.objs.size Nb {s2 with heap:=hp} H2 (s2.heap.objs.size::fp)) ca [] F0) [] (List.replicate no none++cap.map λi=>(σ[i]?).getD none) H2 {s2 with heap:=h₁,toks:=s2.toks+([]:List (Str×Value)).length}:=by
  refine⟨okb,rfl,I3.bare,Un.kept old,⟨_,hns₁,λi x v h1 h2 h3=>?_⟩,λx c e=>?_,fC.1,λx c e=>?_,λp hp=>absurd (show p∈([]:List (Addr×Obj)) from hp) (by simp),I3.hok.kept old,?_⟩
  ·have hi:no<=i:=by
    apply Ra
    intro hlt
    rw[UC (by simpa using hlt),Tw,Uh hlt]at h2
    cases h2
   rw[UJ (by simpa using hi),US,UB]at h2
   cases hcp:cap[i-no]? with
   |none=>rw[hcp]at h2;cases h2
   |some j =>
    rw[hcp]at h2
    have h2:(σ[j]?).getD none=some v:=by simpa using h2
    have hs:σ[j]?=some (some v):=by
     cases z:σ[j]? with
     |none=>rw[z]at h2;cases h2
     |some w=>rw[z]at h2;have h2:w=some v:=h2;rw[h2]
    obtain⟨y,n1,n2,n3,n4,n5⟩:=B.cap (i-no) j hcp
    have e0:no+(i-no)=i:=by omega
    rw[e0]at n1
    have h1:Nb[i]?=some x:=h1
    have hxy:y=x:=Option.some.inj (n1.symm.trans h1)
    subst hxy
    obtain⟨m,hn,hl⟩:=I3.loc
    obtain⟨u,ru,lk⟩:=hl j y v n2 hs n4
    refine⟨u,ru,.inr ⟨?_,?_⟩⟩
    ·rcases h3 with z|z|z
     ·exact(JA n3 z).elim
     ·exact .inl z
     ·exact .inr z
    ·rcases lk with⟨k1,_⟩|⟨_,c,k2,k3⟩
     ·exact absurd k1 n5
     ·obtain⟨c',hc'⟩:=Qck _ _ _ hcl y (.inl (QcC n3))
      have:=Jg _ _ _ hcl (λ_ _ z=>by cases z) y c' hc'
      have k2:X.env.cells.lookup y=some c:=k2
      have hcc:c'=c:=Option.some.inj (this.symm.trans k2)
      subst hcc
      exact⟨c',hc',k3.keeps old⟩
  ·obtain⟨v,z⟩:=I3.cell x c (Jg _ _ _ hcl (λ_ _ z=>by cases z) x c e)
   exact⟨v,z.keeps old⟩
  ·exact I3.freeC x c (Jg _ _ _ hcl (λ_ _ z=>by cases z) x c e)
  ·rw[Ut,US,Ud];exact B.len.symm
 have RbR:=Qjy no cap R2
 have eK:(xat (blk X scope cl hp.objs.size Nb {s2 with heap:=hp} H2 (s2.heap.objs.size::fp)) ca [] F0).K=X.K:=rfl
 have eP:(xat (blk X scope cl hp.objs.size Nb {s2 with heap:=hp} H2 (s2.heap.objs.size::fp)) ca [] F0).prog=X.prog:=rfl
 have eW:(xat (blk X scope cl hp.objs.size Nb {s2 with heap:=hp} H2 (s2.heap.objs.size::fp)) ca [] F0).w=X.w:=rfl
 have eA:(xat (blk X scope cl hp.objs.size Nb {s2 with heap:=hp} H2 (s2.heap.objs.size::fp)) ca [] F0).A=X.A:=rfl
 have eE:(xat (blk X scope cl hp.objs.size Nb {s2 with heap:=hp} H2 (s2.heap.objs.size::fp)) ca [] F0).env=compEnvC scope cl hp.objs.size X.env:=rfl
 have eC:(xat (blk X scope cl hp.objs.size Nb {s2 with heap:=hp} H2 (s2.heap.objs.size::fp)) ca [] F0).calm=true:=hc
 have eX:∀b∈s2.heap.objs.size::fp,b∈(xat (blk X scope cl hp.objs.size Nb {s2 with heap:=hp} H2 (s2.heap.objs.size::fp)) ca [] F0).ex:=λb hb=>hb
 have eN:∀{pl:List (Addr×Obj)}{p:Addr×Obj},p∈(xat (blk X scope cl hp.objs.size Nb {s2 with heap:=hp} H2 (s2.heap.objs.size::fp)) ca [] F0).pn++pl->p∈pl:=λh=>h
 have toUn:∀{pl:List (Addr×Obj)}{σ':L2.St}{H':Hp}{s':Shared},Inv (xat (blk X scope cl hp.objs.size Nb {s2 with heap:=hp} H2 (s2.heap.objs.size::fp)) ca [] F0) pl σ' H' s'->Un (frs (xat X ca pn F0).stack) (s2.heap.objs.size::fp) H2 H' hp s'.heap:=λI=>I.base
 have toOs:∀{pl:List (Addr×Obj)}{σ':L2.St}{H':Hp}{s':Shared},Inv (xat (blk X scope cl hp.objs.size Nb {s2 with heap:=hp} H2 (s2.heap.objs.size::fp)) ca [] F0) pl σ' H' s'->s'.os=s2.os:=λI=>I.os
 generalize blk X scope cl hp.objs.size Nb {s2 with heap:=hp} H2 (s2.heap.objs.size::fp)=Xb at okb hgB hiB heB Ib eK eP eW eA eE eC eX eN toUn toOs
 -- the iterator's records,through the block
 have FpB:∀{H:Hp}{pl:List (Addr×Obj)},(∀b∈fp,H b=none)->(∀p∈pl,p.1∉fp)->∀b∈fp,FpOk (xat Xb ca [] F0) pl H b:=λ{H pl} hn hpl b hb=>by
  have e0:=okb.exf b (eX b (Uz _ hb))
  refine⟨hn b hb,e0.1,?_,.inl (eX b (Uz _ hb)),e0.2,λp hp z=>?_⟩
  ·exact okb.exfs b (eX b (Uz _ hb))
  ·have hp':p∈pl:=eN hp
   exact hpl p hp' (z ▸ hb)
 have FpD:∀{H:Hp},H s2.heap.objs.size=none->FpOk (xat Xb ca [] F0) [] H s2.heap.objs.size:=λ{H} hn=>by
  have e0:=okb.exf s2.heap.objs.size (eX _ UH)
  refine⟨hn,e0.1,?_,.inl (eX _ UH),e0.2,λp hp=>?_⟩
  ·exact okb.exfs s2.heap.objs.size (eX _ UH)
  ·exact absurd (eN hp) (by simp)
 have st4:tn 0 h₁:=T.keep _ _ _ st2 λb hb o e=>old b o (by rw[<-hH2];exact Ub _ e)
 -- the invariant
 have loop:∀s4:Shared,s4 = {s2 with heap:=h₁,toks:=s2.toks+([]:List (Str×Value)).length} ->
   codeAny (model X.prog X.w) X.A (.compLoop (.ListComp elt [⟨tg,iter,ifs,0⟩] scope pos) 0 (.ref it) (.ref s2.heap.objs.size) (compEnvC scope cl hp.objs.size X.env)) (RR (.ref s2.heap.objs.size) hp.objs.size) s4:=by
  rintro s4 rfl
  refine QeV (λn s'=>∃(i:Nat)(σ4:S3)(g4:G)(μ4:List Addr)(σ5:L2.St)(H4:Hp)(acc:List D)(accV:List V)(its:List Value)(k:Nat),Inv (xat Xb ca [] F0) [] σ5 H4 s'/\tn i s'.heap/\(∀b∈fp,H4 b=none)/\H4 s2.heap.objs.size=none /\
   s'.heap.get? s2.heap.objs.size=some {cls:=.type "list",data:=.seq its.toArray k}/\Vals accV its/\Ext X.K μ2 H2 μ4 H4/\Rep X.K ca μ4 σ4 g4 σ5 H4/\Dens X.K μ4 H4 accV acc/\Jq src f tc me n i σ4 g4 acc=.ok ds g2 /\
   acc.length<=i/\i+n<=SZ+1) ?_ (src.top+1) ⟨0,capt no cap σ3,g1,μ2,_,H2,[],[],[],_,Ib,st4,λb hb=>(f2 b hb).1,fD.1,old _ _ hD3,.nil,.refl,RbR,.nil,hL,Ul _,by omega⟩
  rintro n s5 ⟨i,σ4,g4,μ4,σ5,H4,acc,accV,its,k,I5,st5,fr5,frD,hD5,va,e5,R5,da,hl5,ha5,hn5⟩
  cases n with
  |zero=>cases hl5
  |succ n =>
   unfold Jq at hl5
   have s1:=sim i H4 μ4 g4 e5 R5.g
   have pinD:Inv (xat Xb ca [] F0) [(s2.heap.objs.size,{cls:=.type "list",data:=.seq its.toArray k})] σ5 H4 s5:=I5.pins_of λp hp=>by
    rw[Ug.mp hp]
    have z:=FpD frD
    exact⟨hD5,frD,z.2.1,z.2.2.1,λv q=>by cases q⟩
   have nofp:∀p∈[(s2.heap.objs.size,({cls:=.type "list",data:=.seq its.toArray k}:Obj))],p.1∉fp:=λp hp=>by rw[Ug.mp hp];exact DnF
   have getD:∀{σ':L2.St}{H':Hp}{s':Shared}{pl:List (Addr×Obj)},Inv (xat Xb ca [] F0) ([(s2.heap.objs.size,({cls:=.type "list",data:=.seq its.toArray k}:Obj))]++pl) σ' H' s'->s'.heap.get? s2.heap.objs.size=some {cls:=.type "list",data:=.seq its.toArray k}/\H' s2.heap.objs.size=none:=λ{σ' H' s' pl} I'=>by
    have z:=I'.pin (s2.heap.objs.size,{cls:=.type "list",data:=.seq its.toArray k}) (Uv _ (Te _ (Ug.mpr rfl)))
    exact⟨z.1,z.2.1⟩
   cases hat:src.at' g4 i with
   |none=>rw[hat]at hl5;cases hl5
   |some od =>
    rw[hat]at hl5 s1
    cases od with
    |none =>
     cases hl5
     have dn:=T.done (xat Xb ca [] F0) eP eW eK eC i _ s5 σ5 H4 (λ_ _=>False) pinD (FpB fr5 nofp) st5 s1
     rw[eA]at dn
     refine thn dn λr s6 ⟨hr,I6⟩=>?_
     subst hr
     obtain⟨hD6,frD6⟩:=getD (pl:=[]) (by rw[UW];exact I6)
     have un:Un (frs (xat X ca pn F0).stack) (s2.heap.objs.size::fp) H2 H4 hp s6.heap:=toUn I6
     have hok:HOk (xat X ca pn F0).prog (xat X ca pn F0).w H4 s6.heap:=by have:=I6.hok;rw[eP,eW]at this;exact this
     have os:s6.os=s2.os:=toOs I6
     have I7:Inv (xat X ca pn F0) pins σ H4 s6:=Inv.call' (s':=s6) (ch:=s2.heap.objs.size::fp) I3 os un hok I6.bare λb hb=>⟨(exOk b hb).2.2.2.1,(exOk b hb).2.1,(exOk b hb).2.2.2.2.1,(exOk b hb).2.2.2.2.2⟩
     have hCn:H4 hp.objs.size=none:=by have:=I6.free;rw[eE]at this;exact this
     have nsC:∃m,s6.heap.Ns hp.objs.size m:=by obtain⟨m,hm,_⟩:=I6.loc;rw[eE]at hm;exact⟨m,hm⟩
     refine fin _ _ s6 H4 μ4 accV its k I7 nsC (FpOk.mono fC hCn) (FpOk.mono fD frD6) DnC hD6 va ?_ e5 R5.g da
     rw[da.length]
     have:=Jt
     omega
    |some d =>
     obtain⟨go,yl⟩:=s1
     dsimp only at hl5
     cases hf:f d σ4 with
     |none=>rw[hf]at hl5;cases hl5
     |some σ6 =>
      rw[hf]at hl5
      dsimp only at hl5
      have im:=T.item (xat Xb ca [] F0) eP eW eK eC i _ s5 σ5 H4 (λ_ _=>False) pinD (FpB fr5 nofp) st5 go
      rw[eA]at im
      refine thn im λr s6 ⟨u,hr,h6⟩=>?_
      subst hr
      refine thn h6 λ_ s7 ⟨x,H7,I7,r7,y7,st7,fr7⟩=>?_
      obtain⟨e7,g7,q7⟩:=yl x H7 y7
      have I7':=I7.pinned (FpB fr7 nofp) (T.obj _ _ st7)
      have R7:=R5.go e7 g7
      have asg:=hgB [] F0 _ s7 σ5 H7 x u (λσ' H'=>H'=H7/\Rep X.K ca μ4 σ6 g4 σ' H7) I7' r7 (by
       have:Xb.K=X.K:=eK
       rw[this]
       exact⟨σ4,g4,μ4,d,σ6,R7,q7,hf,λσ' R'=>⟨rfl,R'⟩⟩)
      rw[eP,eW,eA,eE]at asg
      refine thn (noX asg) λ_ s8 ⟨σ8,H8,I8,e8,R8⟩=>?_
      subst e8
      cases ht:tc σ6 g4 with
      |raise _ _=>rw[ht]at hl5;cases hl5
      |stuck=>rw[ht]at hl5;cases hl5
      |ok b g9 =>
       rw[ht]at hl5
       have hl5:(if b=true then (match me σ6 g9 with | .ok y g2=>Jq src f tc me n (i+1) σ6 g2 (acc++[y])|_=>.stuck) else Jq src f tc me n (i+1) σ6 g9 acc)=.ok ds g2:=hl5
       have tst:=hiB _ s8 σ8 _ (λb' H'=>b'=b/\∃μ9,Ext X.K μ4 H8 μ9 H'/\Rep X.K ca μ9 σ6 g9 σ8 H') I8 (by
        have:Xb.K=X.K:=eK
        rw[this]
        refine⟨σ6,g4,μ4,R8,?_⟩
        rw[ht]
        exact λH' μ' e' r'=>⟨rfl,μ',e',R8.go e' r'⟩)
       have eP':Xb.prog=X.prog:=eP
       have eW':Xb.w=X.w:=eW
       have eA':Xb.A=X.A:=eA
       have eE':Xb.env=compEnvC scope cl hp.objs.size X.env:=eE
       rw[eP',eW',eA',eE']at tst
       refine thn tst λok s9 ⟨H9,I9,eb,μ9,e9,R9⟩=>?_
       subst eb
       have again:∀{σ':L2.St}{H':Hp}{s':Shared},Inv (xat Xb ca [] F0) ([(s2.heap.objs.size,({cls:=.type "list",data:=.seq its.toArray k}:Obj))]++QeE fp s7.heap) σ' H' s'->Inv (xat Xb ca [] F0) [] σ' H' s'/\tn (i+1) s'.heap/\∀b∈fp,H' b=none:=λ{σ' H' s'} I'=>by
        refine⟨I'.pins_of λp hp=>absurd hp (by simp),T.keep _ _ _ st7 λb hb o e=>(I'.pin (b,o) (Uv _ (Uv _ (QaL hb e)))).1,λb hb=>?_⟩
        obtain⟨o,e,_⟩:=T.obj _ _ st7 b hb
        exact(I'.pin (b,o) (Uv _ (Uv _ (QaL hb e)))).2.1
       cases ok with
       |false =>
        rw[Um Uc]at hl5 ⊢
        obtain⟨J1,J2,J3⟩:=again I9
        obtain⟨K1,K2⟩:=getD I9
        refine⟨n,U4 n,i+1,σ6,g9,μ9,σ8,H9,acc,accV,its,k,J1,J2,J3,K2,K1,va,(e5.trans e7).trans e9,R9,(da.mono e7).mono e9,hl5,by omega,by omega⟩
       |true =>
        rw[Uh rfl]at hl5 ⊢
        cases hm:me σ6 g9 with
        |raise _ _=>rw[hm]at hl5;cases hl5
        |stuck=>rw[hm]at hl5;cases hl5
        |ok y g10 =>
         rw[hm]at hl5
         have hl5:Jq src f tc me n (i+1) σ6 g10 (acc++[y])=.ok ds g2:=hl5
         have el:=heB [] F0 _ s9 σ8 H9 (λvy H'=>∃μ10,Ext X.K μ9 H9 μ10 H'/\Rep X.K ca μ10 σ6 g10 σ8 H'/\Den X.K μ10 H' vy y) I9 (by
          have:Xb.K=X.K:=eK
          rw[this]
          refine⟨σ6,g9,μ9,R9,?_⟩
          rw[hm]
          exact λv H' μ' e' r' q'=>⟨μ',e',R9.go e' r',q'⟩)
         rw[eP,eW,eA,eE]at el
         refine thn (noX el) λuy s10 ⟨vy,H10,I10,ry,μ10,e10,R10,qy⟩=>?_
         obtain⟨K1,K2⟩:=getD I10
         obtain⟨J1,J2,J3⟩:=again I10
         have hlen:its.length=acc.length:=by rw[<-va.length,da.length]
         refine T0 F.slot_list_append ⟨_,K1,rfl⟩ F.entry_list_append (F.args_list_append_2 _ _) (PySem.list_append s2.heap.objs.size its.toArray k uy (by rw[Ue,Rh];have:SZ=1000000:=rfl;omega)) ⟨K1,?_⟩
         have up:=PySem.IsL.update K1 (·.push uy)
         rw[show its.toArray.push uy=(its++[uy]).toArray by simp]at up
         have upo:∀b o,b≠s2.heap.objs.size->s10.heap.get? b=some o->(s10.heap.update s2.heap.objs.size (Obj.mapSeq (·.push uy))).get? b=some o:=λb o hb e=>(UZ s10.heap (Obj.mapSeq (·.push uy)) (Ne.symm hb)).trans e
         obtain⟨d0,d1,d2,d3,d4,d5⟩:=FpD K2
         refine⟨n,U4 n,i+1,σ6,g10,μ10,σ8,H10,acc++[y],accV++[vy],its++[uy],_,J1.turned (t':=s10.toks) upo d0 d1 d3 d4 d5,T.keep _ _ _ J2 λb hb o e=>upo b o (λz=>DnF (z ▸ hb)) e,J3,K2,up,va.append (.cons ry .nil),
          ((e5.trans e7).trans e9).trans e10,R10,((da.mono e7).mono e9).mono e10 |>.append (.cons qy .nil),hl5,by rw[Ut,Wc];omega,by omega⟩
 exact codeAny_compStart_list (loop _ rfl) (T.self _ 0 _ _ _ st4 (loop _ rfl))
end
section
variable{X:Cx}{ca:Nat->Addr}
theorem Qjz{K:Frag}{Φ:XS}{σ:L2.St}{Q:VK}{H:Hp}{μ:List Addr}{mi:MI}{no:Nat}{cap:List Nat}{f:MG}{tc:MT}{me:ME}{σ3:S3}{g:G}(p:Post K ca Φ σ Q H μ (Yc mi no cap f tc me σ3 g)):
  ∃src g1 ds g2,mi σ3 g=.ok src g1/\src.top<=SZ/\Jq src f tc me (src.top+1) 0 (capt no cap σ3) g1 []=.ok ds g2/\Post K ca Φ σ Q H μ (.ok (.ref g2.length) (g2++[.lst ds])):=by
 unfold Yc at p
 cases hm:mi σ3 g with
 |raise _ _=>rw[hm]at p;exact p.elim
 |stuck=>rw[hm]at p;exact p.elim
 |ok src g1 =>
  rw[hm]at p
  dsimp only at p
  by_cases hz:src.top<=SZ
  ·rw[Uh hz]at p
   cases hL:Jq src f tc me (src.top+1) 0 (capt no cap σ3) g1 []with
   |raise _ _=>rw[hL]at p;exact p.elim
   |stuck=>rw[hL]at p;exact p.elim
   |ok ds g2=>rw[hL]at p;exact⟨src,g1,ds,g2,rfl,hz,hL,p⟩
  ·rw[Um hz]at p;exact p.elim
theorem Qam{tg iter elt:Expr}{ifs:List Expr}{scope:Scope}{pos:Pos}{Nb:List Str}{no:Nat}{cap:List Nat}{mi:MI}{f:MG}{tc:MT}{me:ME}(B:BScope X scope Nb no cap)(hc:X.calm=true)(hi:PI3 ca X tg iter mi)(hb:∀cl C s3 H3 ex,PG3 ca (blk X scope cl C Nb s3 H3 ex) tg f/\PIf ca (blk X scope cl C Nb s3 H3 ex) ifs tc/\PE3 ca (blk X scope cl C Nb s3 H3 ex) elt me)(hs:∀x,foldedSetIterable iter X.env x=pure x:=by intro _;rfl):PE3 ca X (.ListComp elt [⟨tg,iter,ifs,0⟩] scope pos) (Yc mi no cap f tc me):=by
 intro pn Φ pins s σ H Q I' ⟨σ3,g,μ,R,p⟩
 obtain⟨src,g1,ds,g2,hm,hz,hL,p⟩:=Qjz p
 have I:Inv (xat X ca pn F0) pins σ H s:=Inv.wish I' _
 suffices hh:wpAny (model X.prog X.w) X.A (eval (.ListComp elt [⟨tg,iter,ifs,0⟩] scope pos) X.env) (EP (xat X ca pn F0) pins σ Q) (λ_ _=>False) s from
  UV hh (λu s' ⟨v,H',J,r,q⟩=>⟨v,H',Inv.wish J _,r,q⟩) λ_ _ z=>z.elim
 obtain⟨cl,hcl⟩:=Qbr (cells:=X.env.cells) scope.names [] λy hy hf=>I.ok.has y.1 (B.free y hy hf)
 rw[eval_ListComp]
 refine wpAny_comprehension_free (env:=X.env) (use:=none) rfl hs (Qbq hcl) B.kind B.loc ?_
 refine thn (noX (hi pn F0 pins s σ H (λJ H'=>∃μ',Ext X.K μ H μ' H'/\GRep X.K ca μ' H' g1/\Sim X.K ca μ' H' src J) I ⟨σ3,g,μ,R,?_⟩)) λv s1 h1=>thn (noX h1) λitv s2 h2=>?_
 ·rw[hm]
  exact λJ H' μ' e r sm=>⟨μ',e,r,sm⟩
 ·obtain⟨it,fp,tn,J,H2,e,I2,T,st2,f2,μ2,e2,r2,sim⟩:=h2
  subst e
  refine QeW (X:=X) (pn:=pn) (RR:=λacc C=>compPost (model X.prog X.w) X.A (λ_ _=>False) none (EP (xat X ca pn F0) pins σ Q) acc C) B hc hb hcl I2 T st2 f2 (R.go e2 r2) sim hz hL ?_
  intro D C s' H4 μ4 accV its k I4 nsC fC fD dc hD va hl e4 r4 da
  obtain⟨m,nsC⟩:=nsC
  refine⟨m,nsC,λh'' hs''=>?_⟩
  have I5:Inv (xat X ca pn F0) pins σ H4 {s' with heap:=h''}:=I4.turned (t':=s'.toks) (λb o hb e=>hs''.extBut b o hb e) fC.1 fC.2.1 fC.2.2.2.1 fC.2.2.2.2.1 fC.2.2.2.2.2
  have hD':=hs''.extBut _ _ dc hD
  have I6:=Inv.track (o:=.lst accV) I5 fD ⟨hl,its,k,va,hD'⟩
  refine⟨.ref D,_,I6,rfl,p _ _ (μ4++[D]) ((e2.trans e4).trans (Q4 fD.1)) (r4.push fD.1 ⟨accV,QN,da.mono (Q4 fD.1)⟩) (.ref ?_)⟩
  rw[<-r4.len];simp
theorem Qh5(i:Nat){x:Str}{py spos:Pos}{tg iter elt:Expr}{ifs:List Expr}{scope:Scope}{pos:Pos}{Nb:List Str}{no:Nat}{cap:List Nat}{mi:MI}{f:MG}{tc:MT}{me:ME}(hN:X.N.Nodup)(B:BScope X scope Nb no cap)(hc:X.calm=true)(hi:PI3 ca X tg iter mi)(hb:∀cl C s3 H3 ex,PG3 ca (blk X scope cl C Nb s3 H3 ex) tg f/\PIf ca (blk X scope cl C Nb s3 H3 ex) ifs tc/\PE3 ca (blk X scope cl C Nb s3 H3 ex) elt me)(hs:∀x,foldedSetIterable iter X.env x=pure x:=by intro _;rfl)(hn:X.N[i]?=some x:=by rfl)(hx:Loc X.env.scope x:=by first|exact Or.inl rfl|exact Or.inr rfl)(hf:X.fn x=true\/X.env.scope.names.lookup x=some .local:=by first|exact .inl rfl|exact .inr rfl)(hsw:swapsWith (.ListComp elt [⟨tg,iter,ifs,0⟩] scope pos) (some (.Name x py)) spos.line X.env=pure true:=by rfl):
  PS3 ca X (.Assign [.Name x py] (.ListComp elt [⟨tg,iter,ifs,0⟩] scope pos) spos) (mAsg (gSet i) (Yc mi no cap f tc me)):=by
 intro pn Φ pins s σ H En I' ⟨σ3,g,μ,R,p⟩
 have pp:∃src g1 ds g2,mi σ3 g=.ok src g1/\src.top<=SZ/\Jq src f tc me (src.top+1) 0 (capt no cap σ3) g1 []=.ok ds g2/\PostS X.K ca Φ En H μ (.nx (σ3.set i (some (.ref g2.length))) (g2++[.lst ds])):=by
  unfold mAsg Yc gSet at p
  cases hm:mi σ3 g with
  |raise _ _=>rw[hm]at p;exact p.elim
  |stuck=>rw[hm]at p;exact p.elim
  |ok src g1 =>
   rw[hm]at p
   dsimp only at p
   by_cases hz:src.top<=SZ
   ·rw[Uh hz]at p
    cases hL:Jq src f tc me (src.top+1) 0 (capt no cap σ3) g1 []with
    |raise _ _=>rw[hL]at p;exact p.elim
    |stuck=>rw[hL]at p;exact p.elim
    |ok ds g2=>rw[hL]at p;exact⟨src,g1,ds,g2,rfl,hz,hL,p⟩
   ·rw[Um hz]at p;exact p.elim
 obtain⟨src,g1,ds,g2,hm,hz,hL,p⟩:=pp
 have I:Inv (xat X ca pn F0) pins σ H s:=Inv.wish I' _
 suffices hh:wpAny (model X.prog X.w) X.A (exec (.Assign [.Name x py] (.ListComp elt [⟨tg,iter,ifs,0⟩] scope pos) spos) X.env) (SP (xat X ca pn F0) pins En) (λ_ _=>False) s from
  UV hh (λu s' z=>SP.unwish (X:=xat X ca pn Φ) (E:=(xat X ca pn F0).xe) z) λ_ _ z=>z.elim
 obtain⟨cl,hcl⟩:=Qbr (cells:=X.env.cells) scope.names [] λy hy hf=>I.ok.has y.1 (B.free y hy hf)
 rw[exec_Assign_Name_used _ _ _ _ hsw]
 refine Ua (wpAny_standAt (Ua ?_))
 show wpAny _ _ (do let _ <-comprehension (.ListComp elt [⟨tg,iter,ifs,0⟩] scope pos) scope X.env _ (newList []) false (eval iter X.env) (some (assign (.Name x py) X.env))) _ _ s
 refine Ua (UV (wpAny_comprehension_free (env:=X.env) (use:=some (assign (.Name x py) X.env)) (Q:=λ_ s'=>SP (xat X ca pn F0) pins En .next s') rfl hs (Qbq hcl) B.kind B.loc ?_) (λ_ s' hq=>Uj (Uj hq)) λ_ _ e=>e)
 refine thn (noX (hi pn F0 pins s σ H (λJ H'=>∃μ',Ext X.K μ H μ' H'/\GRep X.K ca μ' H' g1/\Sim X.K ca μ' H' src J) I ⟨σ3,g,μ,R,?_⟩)) λv s1 h1=>thn (noX h1) λitv s2 h2=>?_
 ·rw[hm]
  exact λJ H' μ' e r sm=>⟨μ',e,r,sm⟩
 ·obtain⟨it,fp,tn,J,H2,e,I2,T,st2,f2,μ2,e2,r2,sim⟩:=h2
  subst e
  refine QeW (X:=X) (pn:=pn) (RR:=λacc C=>compPost (model X.prog X.w) X.A (λ_ _=>False) (some (assign (.Name x py) X.env)) (λ_ s'=>SP (xat X ca pn F0) pins En .next s') acc C) B hc hb hcl I2 T st2 f2 (R.go e2 r2) sim hz hL ?_
  intro D C s' H4 μ4 accV its k I4 nsC fC fD dc hD va hl e4 r4 da
  obtain⟨m,oC,es,ep,hoC,hdC,kk⟩:=nsC
  have I4':Inv (xat X ca pn F0) (pins++[(C,oC)]) σ H4 s':=I4.pins_of λq hq=>by
   rcases Up.mp hq with z|z
   ·exact I4.pin q (Uv _ z)
   ·rw[Ug.mp z]
    exact⟨hoC,fC.1,fC.2.1,fC.2.2.1,λv w=>by rw[show oC.data=_ from hdC]at w;cases w⟩
  have fD':FpOk (xat X ca pn F0) (pins++[(C,oC)]) H4 D:=⟨fD.1,fD.2.1,fD.2.2.1,fD.2.2.2.1,fD.2.2.2.2.1,λq hq=>by
   rcases Up.mp hq with z|z
   ·exact fD.2.2.2.2.2 q (Te _ z)
   ·rcases Up.mp z with z|z
    ·exact fD.2.2.2.2.2 q (Uv _ z)
    ·rw[Ug.mp z];exact Ne.symm dc⟩
  have I6:=Inv.track (o:=.lst accV) I4' fD' ⟨hl,its,k,va,hD⟩
  show wpAny (model X.prog X.w) X.A (assign (.Name x py) X.env (.ref D)) _ _ s'
  refine wpAny_assign_Name (Qch (X:=xat X ca pn F0) I6 hN hn hx (v:=.ref D) rfl (λs'' I7=>?_) hf)
  have pC:=I7.pin (C,oC) (Uv _ (Uv _ (Ug.mpr rfl)))
  refine⟨m,⟨oC,es,ep,pC.1,hdC,kk⟩,λh'' hs''=>?_⟩
  have I8:Inv (xat X ca pn F0) pins (σ.set i (some (.ref D))) (upd H4 D (.lst accV)) {s'' with heap:=h''} :=
   (I7.pins_of (pins':=pins) λq hq=>I7.pin q (Uv _ (Te _ hq))).turned (t':=s''.toks) (λb o hb e=>hs''.extBut b o hb e) (by rw[QP (Ne.symm dc)];exact fC.1) fC.2.1 fC.2.2.2.1 fC.2.2.2.2.1 fC.2.2.2.2.2
  refine⟨_,_,I8,p _ _ (μ4++[D]) ((e2.trans e4).trans (Q4 fD.1)) (Rep.set ((R.go (e2.trans e4) r4).go (Q4 fD.1) (r4.push (o:=.lst accV) (u:=.lst ds) fD.1 ⟨accV,QN,da.mono (Q4 fD.1)⟩)) (.ref ?_) i)⟩
  rw[<-r4.len];simp
end
section
variable{X:Cx}{ca:Nat->Addr}{a b:Expr}{ma mb:ME}{pos:Pos}
theorem QjA:OpR X (binaryOp .Add) (λx y H Q=>∃a b ys,x=.ref a/\y=.ref b/\SqT X.K H a []/\SqT X.K H b ys/\Q (.ref b) H):=by
 intro pins s σ H x y v u Q I rx ry h
 obtain⟨a,b,ys,rfl,rfl,ha,hb,q⟩:=h
 cases rx
 cases ry
 obtain⟨us,r1,p1,_⟩:=I.tuple ha
 obtain⟨ts,r2,p2,_⟩:=I.tuple hb
 cases r1
 obtain⟨⟨cls,dd,data,sl⟩,ho,hc,n,hd⟩:=id p1
 obtain⟨⟨cls2,dd2,data2,sl2⟩,ho2,hc2,n2,hd2⟩:=id p2
 simp only at hc hd hc2 hd2
 subst hc hd hc2 hd2
 exact concat_meets ⟨_,ho,rfl⟩ ⟨_,ho2,rfl⟩ RU seq_tuple_add T1 TW (TQ _ _)
   (tuple_addW0 a b _ _ n n2 dd dd2 sl sl2 (by simp)) ⟨ho,ho2,⟨.ref b,H,I,rfl,q⟩⟩
theorem QjB{K:Frag}:Qad K ca (λx y H Q=>(((∃i j,x=.int i/\y=.int j/\Q (.int (i+j)) H)\/QmE K x y H Q)\/rCat x y H Q)\/(∃a b ys,x=.ref a/\y=.ref b/\SqT K H a []/\SqT K H b ys/\Q (.ref b) H)) pAdd:=by
 intro Φ σ H μ g x y dx dy Q r qx qy p
 unfold pAdd at p
 cases qx with
 |int i =>
  cases qy with
  |int j=>exact .inl (.inl (.inl ⟨i,j,rfl,rfl,p _ H μ .refl r (.int _)⟩))
  |_=>exact p.elim
 |@tup ax xs dsx hx hsx =>
  cases qy with
  |@tup ay ys dsy hy hsy =>
   dsimp only at p
   by_cases z:dsx.length+dsy.length<=SZ
   ·rw[Uh z]at p
    by_cases hx0:dsx=[]
    ·subst hx0
     cases hsx
     exact .inr ⟨ax,ay,ys,rfl,rfl,hx,hy,p _ H μ .refl r (.tup hy hsy)⟩
    ·refine .inl (.inl (.inr ⟨ax,ay,xs,ys,rfl,rfl,hx,hy,?_,by rw[hsx.length,hsy.length];exact Uw z Jt,λe=>?_,λ_ t ht=>p _ _ μ (Zy ht) (r.new ht) (.tup (.of QN) ((hsx.append hsy).mono (Zy ht)))⟩))
     ·rintro rfl
      cases hsx
      exact hx0 rfl
     ·subst e
      cases hsy
      rw[UW]at p
      exact p _ H μ .refl r (.tup hx hsx)
   ·rw[Um z]at p;exact p.elim
  |_=>exact p.elim
 |@ref n an hn =>
  cases qy with
  |@ref m am hm =>
   dsimp only at p
   cases hg:g[n]? with
   |none=>rw[hg]at p;exact p.elim
   |some o =>
    cases hg2:g[m]? with
    |none=>rw[hg,hg2]at p;cases o <;> exact p.elim
    |some o2 =>
     rw[hg,hg2]at p
     obtain⟨a1,ha1,or1⟩:=r.addr hg
     obtain⟨a2,ha2,or2⟩:=r.addr hg2
     rw[hn]at ha1;cases ha1
     rw[hm]at ha2;cases ha2
     cases o with
     |lst xs =>
      cases o2 with
      |lst ys =>
       dsimp only at p
       obtain⟨vs,hH,q⟩:=or1
       obtain⟨ws,hH2,q2⟩:=or2
       by_cases z:xs.length+ys.length<=SZ
       ·rw[Uh z]at p
        refine .inl (.inr ⟨an,am,vs,ws,rfl,rfl,hH,hH2,by rw[q.length,q2.length];exact Uw z Jt,λt ht=>p _ _ (μ++[t]) (Q4 ht) (r.push ht ⟨_,QN,(q.append q2).mono (Q4 ht)⟩) (.ref ?_)⟩)
        rw[<-r.len];simp
       ·rw[Um z]at p;exact p.elim
      |_=>exact p.elim
     |_=>cases o2 <;> exact p.elim
  |_=>exact p.elim
 |_=>cases qy <;> exact p.elim
theorem QQ(ha:PE3 ca X a ma)(hb:PE3 ca X b mb):PE3 ca X (.BinOp a .Add b pos) (mOp2 pAdd ma mb) :=
 QhW (λ_ _=>((op_add.or Qk9).or QmK).or QjA) QjB ha hb
theorem Qh6{K:Frag}{C:Int->Int->Prop}{h:Int->Int->V}{f:D->D->G->Res D}(hf:∀Φ σ i j g Q H μ,GRep K ca μ H g->Post K ca Φ σ Q H μ (f (.int i) (.int j) g)->C i j/\Q (h i j) H)(hn:∀Φ σ x y g Q H μ,Post K ca Φ σ Q H μ (f x y g)->∃i j,x=.int i/\y=.int j):Qad K ca (rI C h) f:=by
 intro Φ σ H μ g x y dx dy Q r qx qy p
 obtain⟨i,j,rfl,rfl⟩:=hn Φ σ dx dy g Q H μ p
 cases qx
 cases qy
 obtain⟨c,q⟩:=hf Φ σ i j g Q H μ r p
 exact⟨i,j,rfl,rfl,c,q⟩
theorem Qgo{K:Frag}{h:Int->Int->V}{f:D->D->G->Res D}(hf:∀Φ σ i j g Q H μ,GRep K ca μ H g->Post K ca Φ σ Q H μ (f (.int i) (.int j) g)->Q (h i j) H)(hn:∀Φ σ x y g Q H μ,Post K ca Φ σ Q H μ (f x y g)->∃i j,x=.int i/\y=.int j):Qad K ca (rI0 h) f:=by
 intro Φ σ H μ g x y dx dy Q r qx qy p
 obtain⟨i,j,rfl,rfl⟩:=hn Φ σ dx dy g Q H μ p
 cases qx
 cases qy
 exact⟨i,j,rfl,rfl,hf Φ σ i j g Q H μ r p⟩
theorem Qcl{K:Frag}{f:D->D->G->Res D}(h:∀x y g,(∃i j,x=D.int i/\y=D.int j)\/f x y g=.stuck)(Φ:XS)(σ:L2.St)(x y:D)(g:G)(Q:VK)(H:Hp)(μ:List Addr)(p:Post K ca Φ σ Q H μ (f x y g)):∃i j,x=.int i/\y=.int j:=by
 rcases h x y g with z|z
 ·exact z
 ·rw[z]at p;exact p.elim
theorem Qbb(ha:PE3 ca X a ma)(hb:PE3 ca X b mb):PE3 ca X (.BinOp a .Sub b pos) (mOp2 pSub ma mb) :=
 QhW (λ_ _=>Qmr) (Qgo (λΦ σ i j g Q H μ r p=>p _ H μ .refl r (.int _)) (Qcl λx y g=>by cases x <;> cases y <;> first|exact .inl ⟨_,_,rfl,rfl⟩|exact .inr rfl)) ha hb
theorem Zp(ha:PE3 ca X a ma)(hb:PE3 ca X b mb):PE3 ca X (.BinOp a .FloorDiv b pos) (mOp2 QR ma mb) :=
 QhW (λ_ _=>QkY) (Qh6 (λΦ σ i j g Q H μ r p=>by
  unfold QR at p
  by_cases z:0<j/\j<1073741824
  ·dsimp only at p;rw[Uh z]at p;exact⟨z,p _ H μ .refl r (.int _)⟩
  ·dsimp only at p;rw[Um z]at p;exact p.elim) (Qcl λx y g=>by cases x <;> cases y <;> first|exact .inl ⟨_,_,rfl,rfl⟩|exact .inr rfl)) ha hb
theorem Zj(ha:PE3 ca X a ma)(hb:PE3 ca X b mb):PE3 ca X (.BinOp a .Mod b pos) (mOp2 pMod ma mb) :=
 QhW (λ_ _=>Qms) (Qh6 (λΦ σ i j g Q H μ r p=>by
  unfold pMod at p
  by_cases z:0<j
  ·dsimp only at p;rw[Uh z]at p;exact⟨z,p _ H μ .refl r (.int _)⟩
  ·dsimp only at p;rw[Um z]at p;exact p.elim) (Qcl λx y g=>by cases x <;> cases y <;> first|exact .inl ⟨_,_,rfl,rfl⟩|exact .inr rfl)) ha hb
theorem Dens.rep{K:Frag}{μ:List Addr}{H:Hp}{vs:List V}{ds:List D}(h:Dens K μ H vs ds):∀k:Nat,Dens K μ H (List.replicate k vs).flatten (List.replicate k ds).flatten
 |0=>.nil
 |k+1=>by rw[UM,UM,Tt,Tt];exact h.append (Dens.rep h k)
theorem QjC{K:Frag}:Qad K ca (λx y H Q=>(∃i j,x=.int i/\y=.int j/\(cM i\/cM j)/\Q (.int (i*j)) H)\/QmL K x y H Q) pMul:=by
 intro Φ σ H μ g x y dx dy Q r qx qy p
 unfold pMul at p
 cases qx with
 |int i =>
  cases qy with
  |int j =>
   dsimp only at p
   by_cases z:cM i\/cM j
   ·rw[Uh z]at p;exact .inl ⟨i,j,rfl,rfl,z,p _ H μ .refl r (.int _)⟩
   ·rw[Um z]at p;exact p.elim
  |_=>exact p.elim
 |@tup ax xs ds hx hsx =>
  cases qy with
  |int k =>
   dsimp only at p
   by_cases z:(0<=k/\k<1073741824)/\ds.length*k.toNat<=SZ
   ·rw[Uh z]at p
    refine .inr ⟨ax,k,xs,rfl,rfl,hx,z.1.1,by omega,by rw[hsx.length];exact Uw z.2 Jt,λe=>?_,λ_ _ t ht=>p _ _ μ (Zy ht) (r.new ht) (.tup (.of QN) ((hsx.rep k.toNat).mono (Zy ht)))⟩
    have e2:(List.replicate k.toNat ds).flatten=ds:=by
     rcases e with e|e
     ·subst e;cases hsx;simp
     ·subst e;simp
    rw[e2]at p
    exact p _ H μ .refl r (.tup hx hsx)
   ·rw[Um z]at p;exact p.elim
  |_=>exact p.elim
 |_=>cases qy <;> exact p.elim
theorem Qfy(ha:PE3 ca X a ma)(hb:PE3 ca X b mb):PE3 ca X (.BinOp a .Mult b pos) (mOp2 pMul ma mb) :=
 QhW (λ_ _=>op_mul.or Qle) QjC ha hb
theorem Ju(ha:PE3 ca X a ma):PE3 ca X (.UnaryOp .USub a pos) (mOp1 pNeg ma) :=
 r_un (λ_ _=>Qmt) (λΦ σ H μ g x dx Q r qx p=>by
  cases qx with
  |int i=>exact⟨i,rfl,p _ H μ .refl r (.int _)⟩
  |_=>exact p.elim) ha
theorem YR{K:Frag}(r:Int->Int->Bool):Qad K ca (rI0 λi j=>.bl (r i j)) (pCmp r) :=
 Qgo (λΦ σ i j g Q H μ r p=>p _ H μ .refl r (.bl _)) (Qcl λx y g=>by cases x <;> cases y <;> first|exact .inl ⟨_,_,rfl,rfl⟩|exact .inr rfl)
theorem r_lt(ha:PE3 ca X a ma)(hb:PE3 ca X b mb):PE3 ca X (.Compare a [.Lt] [b] pos) (mOp2 pLt ma mb):=QhX (λ_ _=>QkZ) (YR _) ha hb (Qaa b)
theorem r_gt(ha:PE3 ca X a ma)(hb:PE3 ca X b mb):PE3 ca X (.Compare a [.Gt] [b] pos) (mOp2 pGt ma mb):=QhX (λ_ _=>Qmv) (YR _) ha hb (Qaa b)
theorem r_ge(ha:PE3 ca X a ma)(hb:PE3 ca X b mb):PE3 ca X (.Compare a [.GtE] [b] pos) (mOp2 pGe ma mb):=QhX (λ_ _=>Qmw) (YR _) ha hb (Qaa b)
theorem QdV(ha:PE3 ca X a ma)(hb:PE3 ca X b mb):PT3 ca X (.Compare a [.Lt] [b] pos) (Qj (mOp2 pLt ma mb)):=Js (λ_ _=>QkZ) (YR _) ha hb (Qaa b)
theorem Qn0(ha:PE3 ca X a ma)(hb:PE3 ca X b mb):PT3 ca X (.Compare a [.LtE] [b] pos) (Qj (mOp2 pLe ma mb)):=Js (λ_ _=>Qmu) (YR _) ha hb (Qaa b)
theorem Qlh(ha:PE3 ca X a ma)(hb:PE3 ca X b mb):PT3 ca X (.Compare a [.Gt] [b] pos) (Qj (mOp2 pGt ma mb)):=Js (λ_ _=>Qmv) (YR _) ha hb (Qaa b)
theorem Qli(ha:PE3 ca X a ma)(hb:PE3 ca X b mb):PT3 ca X (.Compare a [.GtE] [b] pos) (Qj (mOp2 pGe ma mb)):=Js (λ_ _=>Qmw) (YR _) ha hb (Qaa b)
end
section
variable{X:Cx}{ca:Nat->Addr}{pins:List (Addr×Obj)}{σ:L2.St}{H:Hp}{s:Shared}{μ:List Addr}{g:G}
theorem Qbs{eq:D->D->Option Bool}:∀(xs ys:List D)(b:Bool),eqGs eq xs ys=some b->∃e:Nat->Bool,(∀(j:Nat)(x y:D),xs[j]?=some x->ys[j]?=some y->eq x y=some (e j)) /\
  b=((List.range (min xs.length ys.length)).all e && (xs.length == ys.length))
 |[],[],b,h=>by cases h;exact⟨λ_=>true,λj x y h=>by simp at h,by simp⟩
 |[],_::ys,b,h=>by cases h;exact⟨λ_=>true,λj x y h=>by simp at h,by simp⟩
 |_::xs,[],b,h=>by cases h;exact⟨λ_=>true,λj x y _ h=>by simp at h,by simp⟩
 |x::xs,y::ys,b,h=>by
  unfold eqGs at h
  cases h1:eq x y with
  |none=>rw[h1]at h;cases h
  |some c =>
   cases h2:eqGs eq xs ys with
   |none=>rw[h1,h2]at h;cases h
   |some d =>
    rw[h1,h2]at h
    cases h
    obtain⟨e,e1,e2⟩:=Qbs xs ys d h2
    refine⟨λj=>match j with|0=>c|j+1=>e j,λj x' y' hx hy=>?_,?_⟩
    ·cases j with
     |zero =>
      simp at hx hy
      subst hx hy
      exact h1
     |succ j =>
      simp at hx hy
      exact e1 j x' y' hx hy
    ·rw[UQ,UQ,Nat.add_min_add_right,List.range_succ_eq_map,TD,List.all_map,e2]
     simp[Function.comp_def,Bool.and_assoc]
theorem Qcm{A:Around}{eq:D->D->Option Bool}{vs ws:List V}{ds es:List D}{us ts:List Value}{e:Nat->Bool}(qv:Dens X.K μ H vs ds)(qw:Dens X.K μ H ws es)(rv:Vals vs us)(rw':Vals ws ts)(he:∀(j:Nat) (x y:D),ds[j]?=some x->es[j]?=some y->eq x y=some (e j))(ih:∀{v w:V} {d d':D} {u t:Value} {b:Bool},Den X.K μ H v d->Den X.K μ H w d'->RelV v u->RelV w t->eq d d'=some b->SeqAt.EqAt A s u t b):
  ∀(j:Nat)(h1:j<us.toArray.size)(h2:j<ts.toArray.size),SeqAt.EqAt A s us.toArray[j] ts.toArray[j] (e j):=by
 intro j h1 h2
 have l1:j<us.length:=by simpa using h1
 have l2:j<ts.length:=by simpa using h2
 have l3:j<vs.length:=by rw[rv.length];exact l1
 have l4:j<ws.length:=by rw[rw'.length];exact l2
 obtain⟨x,hx,qx⟩:=qv.getV (i:=j) (v:=vs[j]) (by simp[l3])
 obtain⟨y,hy,qy⟩:=qw.getV (i:=j) (v:=ws[j]) (by simp[l4])
 obtain⟨u,hu,ru⟩:=rv.get (i:=j) (x:=vs[j]) (by simp[l3])
 obtain⟨t,ht,rt⟩:=rw'.get (i:=j) (x:=ws[j]) (by simp[l4])
 have eu:us.toArray[j]=u:=by
  have:us[j]?=some us[j]:=by simp[l1]
  rw[this]at hu;simpa using hu
 have et:ts.toArray[j]=t:=by
  have:ts[j]?=some ts[j]:=by simp[l2]
  rw[this]at ht;simpa using ht
 rw[eu,et]
 exact ih qx qy ru rt (he j x y hx hy)
theorem Qh7{A:Around}{eq:D->D->Option Bool}{a c:Addr}{vs ws:List V}{ds es:List D}{b:Bool}(hu:A.units<cLine)(I:Inv X pins σ H s)(h1:SqT X.K H a vs)(q1:Dens X.K μ H vs ds)(h2:SqT X.K H c ws)(q2:Dens X.K μ H ws es)(ih:∀{v w:V} {d d':D} {u t:Value} {b:Bool},Den X.K μ H v d->Den X.K μ H w d'->RelV v u->RelV w t->eq d d'=some b->SeqAt.EqAt A.in1 s u t b)(h:eqGs eq ds es=some b):SeqAt.RcAt A s (.ref a) (.ref c) b:=by
 obtain⟨us,r1,p1,_⟩:=I.tuple h1
 obtain⟨ts,r2,p2,_⟩:=I.tuple h2
 obtain⟨e,e1,e2⟩:=Qbs ds es b h
 have q:=SeqAt.RcAt.tuples (A:=A) p1 p2 hu (e:=e) (Qcm q1 q2 r1 r2 e1 ih)
 have l1:us.toArray.size=ds.length:=by rw[Ue,<-r1.length,q1.length]
 have l2:ts.toArray.size=es.length:=by rw[Ue,<-r2.length,q2.length]
 rw[l1,l2]at q
 rw[e2]
 exact q
theorem Qh8{A:Around}{eq:D->D->Option Bool}{a c:Addr}{vs ws:List V}{ds es:List D}{b:Bool}(hu:A.units<cLine)(I:Inv X pins σ H s)(h1:SqL X.K H a vs)(q1:Dens X.K μ H vs ds)(h2:SqL X.K H c ws)(q2:Dens X.K μ H ws es)(ih:∀{v w:V} {d d':D} {u t:Value} {b:Bool},Den X.K μ H v d->Den X.K μ H w d'->RelV v u->RelV w t->eq d d'=some b->SeqAt.EqAt A.in1 s u t b)(h:(if ds.length=es.length then eqGs eq ds es else some false)=some b):SeqAt.RcAt A s (.ref a) (.ref c) b:=by
 obtain⟨us,r1,p1,_⟩:=I.list h1
 obtain⟨ts,r2,p2,_⟩:=I.list h2
 have l1:us.toArray.size=ds.length:=by rw[Ue,<-r1.length,q1.length]
 have l2:ts.toArray.size=es.length:=by rw[Ue,<-r2.length,q2.length]
 by_cases hl:ds.length=es.length
 ·rw[Uh hl]at h
  obtain⟨e,e1,e2⟩:=Qbs ds es b h
  have q:=SeqAt.RcAt.lists (A:=A) p1.isList p2.isList (by rw[l1,l2,hl]) hu (e:=e) (Qcm q1 q2 r1 r2 e1 ih)
  rw[l1]at q
  rw[e2,<-hl,Nat.min_self]
  simpa using q
 ·rw[Um hl]at h
  cases h
  exact SeqAt.RcAt.lists_lengths p1.isList p2.isList (by rw[l1,l2];simpa using hl) hu
theorem QdW(I:Inv X pins σ H s)(r:GRep X.K ca μ H g):∀(f:Nat){v:V}{d e:D}{b:Bool},Den X.K μ H v d->Den X.K μ H v e->eqN g f d e=some b->b=true
 |0,v,d,e,b,h1,h2,h=>by cases h
 |f+1,v,d,e,b,h1,h2,h=>by
  have key:∀{vs:List V}{ds es:List D}{b:Bool},Dens X.K μ H vs ds->Dens X.K μ H vs es->eqGs (eqN g f) ds es=some b->b=true:=by
   intro vs
   induction vs with
   |nil=>intro ds es b a1 a2 a3;cases a1;cases a2;cases a3;rfl
   |cons w ws ih =>
    intro ds es b a1 a2 a3
    cases a1 with
    |cons c1 c2=>cases a2 with
     |cons c3 c4 =>
      rename_i x xs y ys
      unfold eqGs at a3
      cases h1:eqN g f x y with
      |none=>rw[h1]at a3;cases a3
      |some b1 =>
       cases h2:eqGs (eqN g f) xs ys with
       |none=>rw[h1,h2]at a3;cases a3
       |some b2 =>
        rw[h1,h2]at a3
        cases a3
        rw[QdW I r f c1 c3 h1,ih c2 c4 h2];rfl
  have hidx:∀{n m:Nat}{a:Addr},μ[n]?=some a->μ[m]?=some a->n=m:=λ{n m a} x1 x2=>by
   obtain⟨l1,e1⟩:=Uf.mp x1
   obtain⟨l2,e2⟩:=Uf.mp x2
   exact(RT r.nd).mp (e1.trans e2.symm)
  cases h1 with
  |non=>cases h2;cases h;rfl
  |bl a=>cases h2;cases h;simp
  |int i=>cases h2;cases h;simp
  |str i=>cases h2;cases h;simp
  |tup t1 q1 =>
   cases h2 with
   |tup t2 q2 =>
    have ev:=I.tuple_inj t1 t2
    subst ev
    exact key q1 q2 h
   |ref hm => 
    exfalso
    unfold eqN at h
    dsimp only[lstF]at h
    rename_i m
    cases hg:g[m]? with
    |none=>rw[hg]at h;cases h
    |some o =>
     cases o with
     |lst xs =>
      obtain⟨b2,hb2,ob2⟩:=r.addr hg
      rw[hm]at hb2;cases hb2
      obtain⟨vs,hH,_⟩:=ob2
      obtain⟨_,_,p1,_⟩:=I.tuple t1
      obtain⟨_,_,p2,_⟩:=I.list (.of hH)
      exact SeqAt.ne_of_list_tuple p2.isList p1 rfl
     |_=>rw[hg]at h;cases h
   |_=>cases h
  |@ref n a hn =>
   cases h2 with
   |@ref m _ hm =>
    have e:=hidx hn hm
    subst e
    unfold eqN at h
    dsimp only at h
    cases hg:g[n]? with
    |none=>rw[hg]at h;cases h
    |some o =>
     rw[hg]at h
     cases o with
     |lst xs =>
      dsimp only at h
      rw[Uh rfl]at h
      obtain⟨b2,hb2,ob2⟩:=r.addr hg
      rw[hn]at hb2;cases hb2
      obtain⟨vs,hH,q⟩:=ob2
      exact key q q h
     |_=>cases h
   |tup t2 q2 =>
    exfalso
    unfold eqN at h
    dsimp only[lstF]at h
    cases hg:g[n]? with
    |none=>rw[hg]at h;cases h
    |some o =>
     cases o with
     |lst xs =>
      obtain⟨b2,hb2,ob2⟩:=r.addr hg
      rw[hn]at hb2;cases hb2
      obtain⟨vs,hH,_⟩:=ob2
      obtain⟨_,_,p1,_⟩:=I.tuple t2
      obtain⟨_,_,p2,_⟩:=I.list (.of hH)
      exact SeqAt.ne_of_list_tuple p2.isList p1 rfl
     |_=>rw[hg]at h;cases h
   |_=>cases h
  |fl _ _=>cases e <;> cases h
theorem Zq(r:GRep X.K ca μ H g)(I:Inv X pins σ H s){n:Nat}{a:Addr}{b:Bool}(hn:μ[n]?=some a)(h:lstF g n=some b):b=false/\∃items,s.heap.IsList a items:=by
 unfold lstF at h
 cases hg:g[n]? with
 |none=>rw[hg]at h;cases h
 |some o =>
  rw[hg]at h
  cases o with
  |lst xs =>
   cases h
   obtain⟨b2,hb2,ob2⟩:=r.addr hg
   rw[hn]at hb2;cases hb2
   obtain⟨vs,hH,_⟩:=ob2
   obtain⟨us,_,p2,_⟩:=I.list (.of hH)
   exact⟨rfl,_,p2.isList⟩
  |_=>cases h
theorem QdX(r:GRep X.K ca μ H g){f n m:Nat}{a c:Addr}{b:Bool}(hn:μ[n]?=some a)(hm:μ[m]?=some c)(h:eqN g (f+1) (.ref n) (.ref m)=some b):
  ∃vs ws ds es,SqL X.K H a vs/\Dens X.K μ H vs ds/\SqL X.K H c ws/\Dens X.K μ H ws es/\(if ds.length=es.length then eqGs (eqN g f) ds es else some false)=some b:=by
 unfold eqN at h
 dsimp only at h
 cases hg:g[n]? with
 |none=>rw[hg]at h;cases h
 |some o1 =>
  cases hg2:g[m]? with
  |none=>rw[hg,hg2]at h;cases o1 <;> cases h
  |some o2 =>
   rw[hg,hg2]at h
   obtain⟨b1,hb1,ob1⟩:=r.addr hg
   obtain⟨b2,hb2,ob2⟩:=r.addr hg2
   rw[hn]at hb1;cases hb1
   rw[hm]at hb2;cases hb2
   cases o1 with
   |lst xs =>
    cases o2 with
    |lst ys =>
     obtain⟨vs,hH1,q1⟩:=ob1
     obtain⟨ws,hH2,q2⟩:=ob2
     exact⟨vs,ws,xs,ys,.of hH1,q1,.of hH2,q2,h⟩
    |_=>cases h
   |_=>cases o2 <;> cases h
theorem Qgp(I:Inv X pins σ H s)(r:GRep X.K ca μ H g):∀(f:Nat){A:Around}{v w:V}{d e:D}{u t:Value}{b:Bool},A.units+f<cLine->Den X.K μ H v d->Den X.K μ H w e->RelV v u->RelV w t->eqN g f d e=some b->SeqAt.EqAt A s u t b
 |0,A,v,w,d,e,u,t,b,hu,qv,qw,rv,rw',h=>by cases h
 |f+1,A,v,w,d,e,u,t,b,hu,qv,qw,rv,rw',h=>by
  have hu':A.units<cLine:=by omega
  cases qv with
  |non =>
   cases rv
   cases qw with
   |non=>cases rw';cases h;exact Rl _
   |bl c=>cases rw';cases h;exact SeqAt.EqAt.none_bool _
   |int j=>obtain⟨z,rfl⟩:=rw';cases h;exact SeqAt.EqAt.none_int _ _
   |str j=>obtain⟨z,rfl⟩:=rw';cases h;exact SeqAt.EqAt.none_str _ _
   |tup h2 q2=>cases rw';cases h;obtain⟨_,_,p2,_⟩:=I.tuple h2;exact SeqAt.EqAt.none_tuple p2 hu'
   |ref hm=>cases rw';obtain⟨rfl,_,p⟩:=Zq r I hm h;exact SeqAt.EqAt.none_list p hu'
   |fl _ _=>cases h
  |bl a =>
   cases rv
   cases qw with
   |non=>cases rw';cases h;exact SeqAt.EqAt.bool_none _
   |bl c=>cases rw';cases h;exact SeqAt.EqAt.bool_bool _ _
   |int j=>obtain⟨z,rfl⟩:=rw';cases h;exact SeqAt.EqAt.bool_int _ _ _
   |str j=>obtain⟨z,rfl⟩:=rw';cases h;exact SeqAt.EqAt.bool_str _ _ _
   |tup h2 q2=>cases rw';cases h;obtain⟨_,_,p2,_⟩:=I.tuple h2;exact SeqAt.EqAt.bool_tuple _ p2 hu'
   |ref hm=>cases rw';obtain⟨rfl,_,p⟩:=Zq r I hm h;exact SeqAt.EqAt.bool_list _ p hu'
   |fl _ _=>cases h
  |int i =>
   obtain⟨y,rfl⟩:=rv
   cases qw with
   |non=>cases rw';cases h;exact SeqAt.EqAt.int_none _ _
   |bl c=>cases rw';cases h;exact SeqAt.EqAt.int_bool _ _ _
   |int j=>obtain⟨z,rfl⟩:=rw';cases h;exact SeqAt.EqAt.int_int _ _ _ _
   |str j=>obtain⟨z,rfl⟩:=rw';cases h;exact Rz _ _ _ _
   |tup h2 q2=>cases rw';cases h;obtain⟨_,_,p2,_⟩:=I.tuple h2;exact SeqAt.EqAt.int_tuple _ _ p2 hu'
   |ref hm=>cases rw';obtain⟨rfl,_,p⟩:=Zq r I hm h;exact SeqAt.EqAt.int_list _ _ p hu'
   |fl _ _=>cases h
  |str i =>
   obtain⟨y,rfl⟩:=rv
   cases qw with
   |non=>cases rw';cases h;exact SeqAt.EqAt.str_none _ _
   |bl c=>cases rw';cases h;exact SeqAt.EqAt.str_bool _ _ _
   |int j=>obtain⟨z,rfl⟩:=rw';cases h;exact RA _ _ _ _
   |str j=>obtain⟨z,rfl⟩:=rw';cases h;exact SeqAt.EqAt.str_str _ _ _ _
   |tup h2 q2=>cases rw';cases h;obtain⟨_,_,p2,_⟩:=I.tuple h2;exact SeqAt.EqAt.str_tuple _ _ p2 hu'
   |ref hm=>cases rw';obtain⟨rfl,_,p⟩:=Zq r I hm h;exact SeqAt.EqAt.str_list _ _ p hu'
   |fl _ _=>cases h
  |@tup a1 vs ds h1 q1 =>
   cases rv
   obtain⟨_,_,p1,_⟩:=id (I.tuple h1)
   cases qw with
   |non=>cases rw';cases h;exact SeqAt.EqAt.tuple_none p1 hu'
   |bl c=>cases rw';cases h;exact SeqAt.EqAt.tuple_bool _ p1 hu'
   |int j=>obtain⟨z,rfl⟩:=rw';cases h;exact SeqAt.EqAt.tuple_int _ _ p1 hu'
   |str j=>obtain⟨z,rfl⟩:=rw';cases h;exact SeqAt.EqAt.tuple_str _ _ p1 hu'
   |@tup a2 ws es h2 q2 =>
    cases rw'
    by_cases ea:a1=a2
    ·subst ea
     rw[QdW I r (f+1) (.tup h1 q1) (.tup h2 q2) h]
     exact Rl _
    ·exact SeqAt.EqAt.of_refs ea (Qh7 hu' I h1 q1 h2 q2 (λa1 a2 a3 a4 a5=>Qgp I r f (by show A.units+1+f<cLine;omega) a1 a2 a3 a4 a5) h)
   |ref hm=>cases rw';obtain⟨rfl,_,p⟩:=Zq r I hm h;exact SeqAt.EqAt.tuple_list p1 p hu'
   |fl _ _=>cases h
  |@ref n a hn =>
   cases rv
   cases qw with
   |non=>cases rw';obtain⟨rfl,_,p⟩:=Zq r I hn h;exact SeqAt.EqAt.list_none p hu'
   |bl c=>cases rw';obtain⟨rfl,_,p⟩:=Zq r I hn h;exact SeqAt.EqAt.list_bool _ p hu'
   |int j=>obtain⟨z,rfl⟩:=rw';obtain⟨rfl,_,p⟩:=Zq r I hn h;exact SeqAt.EqAt.list_int _ _ p hu'
   |str j=>obtain⟨z,rfl⟩:=rw';obtain⟨rfl,_,p⟩:=Zq r I hn h;exact SeqAt.EqAt.list_str _ _ p hu'
   |tup h2 q2=>cases rw';obtain⟨_,_,p2,_⟩:=I.tuple h2;obtain⟨rfl,_,p⟩:=Zq r I hn h;exact SeqAt.EqAt.list_tuple p p2 hu'
   |@ref m c hm =>
    cases rw'
    by_cases ea:a=c
    ·subst ea
     rw[QdW I r (f+1) (.ref hn) (.ref hm) h]
     exact Rl _
    ·obtain⟨vs,ws,ds,es,h1,q1,h2,q2,h⟩:=QdX r hn hm h
     exact SeqAt.EqAt.of_refs ea (Qh8 hu' I h1 q1 h2 q2 (λa1 a2 a3 a4 a5=>Qgp I r f (by show A.units+1+f<cLine;omega) a1 a2 a3 a4 a5) h)
   |fl _ _=>cases h
  |fl _ _=>cases e <;> cases h
noncomputable def rEqN(K:Frag)(ca:Nat->Addr)(neg:Bool):R2:=λx y H Q=>∃(μ:List Addr)(g:G)(d e:D)(b:Bool),GRep K ca μ H g/\Den K μ H x d/\Den K μ H y e/\eqN g 8 d e=some b/\Q (.bl (if neg=true then !b else b)) H
theorem Qkv(hu:X.A.units+16<cLine):OpR X (compareOp .Eq) (rEqN X.K ca false):=by
 intro pins s σ H x y u t Q I rv rw' hh
 obtain⟨μ,g,d,e,b,r,qv,qw,h,q⟩:=hh
 have hu':X.A.units<cLine:=by omega
 have ih:∀{v w:V}{d d':D}{u t:Value}{b:Bool},Den X.K μ H v d->Den X.K μ H w d'->RelV v u->RelV w t->eqN g 7 d d'=some b->SeqAt.EqAt X.A.in1 s u t b:=λa1 a2 a3 a4 a5=>Qgp I r 7 (by show X.A.units+1+7<cLine;omega) a1 a2 a3 a4 a5
 have go:SeqAt.RcAt X.A s u t (b):=by
  cases qv with
  |non =>
   cases rv
   cases qw with
   |non=>cases rw';cases h;exact SeqAt.RcAt.none_none
   |bl c=>cases rw';cases h;exact SeqAt.RcAt.none_bool _
   |int j=>obtain⟨z,rfl⟩:=rw';cases h;exact SeqAt.RcAt.none_int _ _
   |str j=>obtain⟨z,rfl⟩:=rw';cases h;exact SeqAt.RcAt.none_str _ _
   |tup h2 q2=>cases rw';cases h;obtain⟨_,_,p2,_⟩:=I.tuple h2;exact SeqAt.RcAt.none_tuple p2 hu'
   |ref hm=>cases rw';obtain⟨rfl,_,p⟩:=Zq r I hm h;exact SeqAt.RcAt.none_list p hu'
   |fl _ _=>cases h
  |bl a =>
   cases rv
   cases qw with
   |non=>cases rw';cases h;exact SeqAt.RcAt.bool_none _
   |bl c=>cases rw';cases h;exact SeqAt.RcAt.bool_bool _ _
   |int j=>obtain⟨z,rfl⟩:=rw';cases h;exact SeqAt.RcAt.bool_int _ _ _
   |str j=>obtain⟨z,rfl⟩:=rw';cases h;exact SeqAt.RcAt.bool_str _ _ _
   |tup h2 q2=>cases rw';cases h;obtain⟨_,_,p2,_⟩:=I.tuple h2;exact SeqAt.RcAt.bool_tuple _ p2 hu'
   |ref hm=>cases rw';obtain⟨rfl,_,p⟩:=Zq r I hm h;exact SeqAt.RcAt.bool_list _ p hu'
   |fl _ _=>cases h
  |int i =>
   obtain⟨y,rfl⟩:=rv
   cases qw with
   |non=>cases rw';cases h;exact SeqAt.RcAt.int_none _ _
   |bl c=>cases rw';cases h;exact SeqAt.RcAt.int_bool _ _ _
   |int j=>obtain⟨z,rfl⟩:=rw';cases h;exact SeqAt.RcAt.int_int _ _ _ _
   |str j=>obtain⟨z,rfl⟩:=rw';cases h;exact SeqAt.RcAt.int_str _ _ _ _
   |tup h2 q2=>cases rw';cases h;obtain⟨_,_,p2,_⟩:=I.tuple h2;exact SeqAt.RcAt.int_tuple _ _ p2 hu'
   |ref hm=>cases rw';obtain⟨rfl,_,p⟩:=Zq r I hm h;exact SeqAt.RcAt.int_list _ _ p hu'
   |fl _ _=>cases h
  |str i =>
   obtain⟨y,rfl⟩:=rv
   cases qw with
   |non=>cases rw';cases h;exact SeqAt.RcAt.str_none _ _
   |bl c=>cases rw';cases h;exact SeqAt.RcAt.str_bool _ _ _
   |int j=>obtain⟨z,rfl⟩:=rw';cases h;exact SeqAt.RcAt.str_int _ _ _ _
   |str j=>obtain⟨z,rfl⟩:=rw';cases h;exact SeqAt.RcAt.str_str _ _ _ _
   |tup h2 q2=>cases rw';cases h;obtain⟨_,_,p2,_⟩:=I.tuple h2;exact SeqAt.RcAt.str_tuple _ _ p2 hu'
   |ref hm=>cases rw';obtain⟨rfl,_,p⟩:=Zq r I hm h;exact SeqAt.RcAt.str_list _ _ p hu'
   |fl _ _=>cases h
  |tup h1 q1 =>
   cases rv
   obtain⟨_,_,p1,_⟩:=id (I.tuple h1)
   cases qw with
   |non=>cases rw';cases h;exact SeqAt.RcAt.tuple_none p1 hu'
   |bl c=>cases rw';cases h;exact SeqAt.RcAt.tuple_bool _ p1 hu'
   |int j=>obtain⟨z,rfl⟩:=rw';cases h;exact SeqAt.RcAt.tuple_int _ _ p1 hu'
   |str j=>obtain⟨z,rfl⟩:=rw';cases h;exact SeqAt.RcAt.tuple_str _ _ p1 hu'
   |tup h2 q2=>cases rw';exact Qh7 hu' I h1 q1 h2 q2 ih h
   |ref hm=>cases rw';obtain⟨rfl,_,p⟩:=Zq r I hm h;exact SeqAt.RcAt.tuple_list p1 p hu'
   |fl _ _=>cases h
  |@ref n a hn =>
   cases rv
   cases qw with
   |non=>cases rw';obtain⟨rfl,_,p⟩:=Zq r I hn h;exact SeqAt.RcAt.list_none p hu'
   |bl c=>cases rw';obtain⟨rfl,_,p⟩:=Zq r I hn h;exact SeqAt.RcAt.list_bool _ p hu'
   |int j=>obtain⟨z,rfl⟩:=rw';obtain⟨rfl,_,p⟩:=Zq r I hn h;exact SeqAt.RcAt.list_int _ _ p hu'
   |str j=>obtain⟨z,rfl⟩:=rw';obtain⟨rfl,_,p⟩:=Zq r I hn h;exact SeqAt.RcAt.list_str _ _ p hu'
   |tup h2 q2=>cases rw';obtain⟨_,_,p2,_⟩:=I.tuple h2;obtain⟨rfl,_,p⟩:=Zq r I hn h;exact SeqAt.RcAt.list_tuple p p2 hu'
   |@ref m c hm =>
    cases rw'
    obtain⟨vs,ws,ds,es,h1,q1,h2,q2,h⟩:=QdX r hn hm h
    exact Qh8 hu' I h1 q1 h2 q2 ih h
   |fl _ _=>cases h
  |fl _ _=>cases e <;> cases h
 exact go _ _ _ _ ⟨.bl _,H,I,rfl,q⟩
theorem Qh9{A:Around}{eq:D->D->Option Bool}{a c:Addr}{vs ws:List V}{ds es:List D}{b:Bool}(hu:A.units<cLine)(I:Inv X pins σ H s)(h1:SqL X.K H a vs)(q1:Dens X.K μ H vs ds)(h2:SqL X.K H c ws)(q2:Dens X.K μ H ws es)(ih:∀{v w:V} {d d':D} {u t:Value} {b:Bool},Den X.K μ H v d->Den X.K μ H w d'->RelV v u->RelV w t->eq d d'=some b->SeqAt.EqAt A.in1 s u t b)(h:(if ds.length=es.length then eqGs eq ds es else some false)=some b):SeqAt.RcNeAt A s (.ref a) (.ref c) (!b):=by
 obtain⟨us,r1,p1,_⟩:=I.list h1
 obtain⟨ts,r2,p2,_⟩:=I.list h2
 have l1:us.toArray.size=ds.length:=by rw[Ue,<-r1.length,q1.length]
 have l2:ts.toArray.size=es.length:=by rw[Ue,<-r2.length,q2.length]
 by_cases hl:ds.length=es.length
 ·rw[Uh hl]at h
  obtain⟨e,e1,e2⟩:=Qbs ds es b h
  have q:=SeqAt.RcNeAt.lists (A:=A) p1.isList p2.isList (by rw[l1,l2,hl]) hu (e:=e) (Qcm q1 q2 r1 r2 e1 ih)
  rw[l1]at q
  rw[e2,<-hl,Nat.min_self]
  simpa using q
 ·rw[Um hl]at h
  cases h
  exact SeqAt.RcNeAt.lists_lengths p1.isList p2.isList (by rw[l1,l2];simpa using hl) hu
theorem Qia{A:Around}{eq:D->D->Option Bool}{a c:Addr}{vs ws:List V}{ds es:List D}{b:Bool}(hu:A.units<cLine)(I:Inv X pins σ H s)(h1:SqT X.K H a vs)(q1:Dens X.K μ H vs ds)(h2:SqT X.K H c ws)(q2:Dens X.K μ H ws es)(ih:∀{v w:V} {d d':D} {u t:Value} {b:Bool},Den X.K μ H v d->Den X.K μ H w d'->RelV v u->RelV w t->eq d d'=some b->SeqAt.EqAt A.in1 s u t b)(h:eqGs eq ds es=some b):SeqAt.RcNeAt A s (.ref a) (.ref c) (!b):=by
 obtain⟨us,r1,p1,_⟩:=I.tuple h1
 obtain⟨ts,r2,p2,_⟩:=I.tuple h2
 obtain⟨e,e1,e2⟩:=Qbs ds es b h
 have q:=SeqAt.RcNeAt.tuples (A:=A) p1 p2 hu (e:=e) (Qcm q1 q2 r1 r2 e1 ih)
 have l1:us.toArray.size=ds.length:=by rw[Ue,<-r1.length,q1.length]
 have l2:ts.toArray.size=es.length:=by rw[Ue,<-r2.length,q2.length]
 rw[l1,l2]at q
 rw[e2]
 exact q
theorem QmX(hu:X.A.units+16<cLine):OpR X (compareOp .NotEq) (rEqN X.K ca true):=by
 intro pins s σ H x y u t Q I rv rw' hh
 obtain⟨μ,g,d,e,b,r,qv,qw,h,q⟩:=hh
 have hu':X.A.units<cLine:=by omega
 have ih:∀{v w:V}{d d':D}{u t:Value}{b:Bool},Den X.K μ H v d->Den X.K μ H w d'->RelV v u->RelV w t->eqN g 7 d d'=some b->SeqAt.EqAt X.A.in1 s u t b:=λa1 a2 a3 a4 a5=>Qgp I r 7 (by show X.A.units+1+7<cLine;omega) a1 a2 a3 a4 a5
 have go:SeqAt.RcNeAt X.A s u t (!b):=by
  cases qv with
  |non =>
   cases rv
   cases qw with
   |non=>cases rw';cases h;exact SeqAt.RcNeAt.none_none
   |bl c=>cases rw';cases h;exact SeqAt.RcNeAt.none_bool _
   |int j=>obtain⟨z,rfl⟩:=rw';cases h;exact SeqAt.RcNeAt.none_int _ _
   |str j=>obtain⟨z,rfl⟩:=rw';cases h;exact SeqAt.RcNeAt.none_str _ _
   |tup h2 q2=>cases rw';cases h;obtain⟨_,_,p2,_⟩:=I.tuple h2;exact SeqAt.RcNeAt.none_tuple p2 hu'
   |ref hm=>cases rw';obtain⟨rfl,_,p⟩:=Zq r I hm h;exact SeqAt.RcNeAt.none_list p hu'
   |fl _ _=>cases h
  |bl a =>
   cases rv
   cases qw with
   |non=>cases rw';cases h;exact SeqAt.RcNeAt.bool_none _
   |bl c=>cases rw';cases h;exact SeqAt.RcNeAt.bool_bool _ _
   |int j=>obtain⟨z,rfl⟩:=rw';cases h;exact SeqAt.RcNeAt.bool_int _ _ _
   |str j=>obtain⟨z,rfl⟩:=rw';cases h;exact SeqAt.RcNeAt.bool_str _ _ _
   |tup h2 q2=>cases rw';cases h;obtain⟨_,_,p2,_⟩:=I.tuple h2;exact SeqAt.RcNeAt.bool_tuple _ p2 hu'
   |ref hm=>cases rw';obtain⟨rfl,_,p⟩:=Zq r I hm h;exact SeqAt.RcNeAt.bool_list _ p hu'
   |fl _ _=>cases h
  |int i =>
   obtain⟨y,rfl⟩:=rv
   cases qw with
   |non=>cases rw';cases h;exact SeqAt.RcNeAt.int_none _ _
   |bl c=>cases rw';cases h;exact SeqAt.RcNeAt.int_bool _ _ _
   |int j=>obtain⟨z,rfl⟩:=rw';cases h;exact SeqAt.RcNeAt.int_int _ _ _ _
   |str j=>obtain⟨z,rfl⟩:=rw';cases h;exact SeqAt.RcNeAt.int_str _ _ _ _
   |tup h2 q2=>cases rw';cases h;obtain⟨_,_,p2,_⟩:=I.tuple h2;exact SeqAt.RcNeAt.int_tuple _ _ p2 hu'
   |ref hm=>cases rw';obtain⟨rfl,_,p⟩:=Zq r I hm h;exact SeqAt.RcNeAt.int_list _ _ p hu'
   |fl _ _=>cases h
  |str i =>
   obtain⟨y,rfl⟩:=rv
   cases qw with
   |non=>cases rw';cases h;exact SeqAt.RcNeAt.str_none _ _
   |bl c=>cases rw';cases h;exact SeqAt.RcNeAt.str_bool _ _ _
   |int j=>obtain⟨z,rfl⟩:=rw';cases h;exact SeqAt.RcNeAt.str_int _ _ _ _
   |str j=>obtain⟨z,rfl⟩:=rw';cases h;exact SeqAt.RcNeAt.str_str _ _ _ _
   |tup h2 q2=>cases rw';cases h;obtain⟨_,_,p2,_⟩:=I.tuple h2;exact SeqAt.RcNeAt.str_tuple _ _ p2 hu'
   |ref hm=>cases rw';obtain⟨rfl,_,p⟩:=Zq r I hm h;exact SeqAt.RcNeAt.str_list _ _ p hu'
   |fl _ _=>cases h
  |tup h1 q1 =>
   cases rv
   obtain⟨_,_,p1,_⟩:=id (I.tuple h1)
   cases qw with
   |non=>cases rw';cases h;exact SeqAt.RcNeAt.tuple_none p1 hu'
   |bl c=>cases rw';cases h;exact SeqAt.RcNeAt.tuple_bool _ p1 hu'
   |int j=>obtain⟨z,rfl⟩:=rw';cases h;exact SeqAt.RcNeAt.tuple_int _ _ p1 hu'
   |str j=>obtain⟨z,rfl⟩:=rw';cases h;exact SeqAt.RcNeAt.tuple_str _ _ p1 hu'
   |tup h2 q2=>cases rw';exact Qia hu' I h1 q1 h2 q2 ih h
   |ref hm=>cases rw';obtain⟨rfl,_,p⟩:=Zq r I hm h;exact SeqAt.RcNeAt.tuple_list p1 p hu'
   |fl _ _=>cases h
  |@ref n a hn =>
   cases rv
   cases qw with
   |non=>cases rw';obtain⟨rfl,_,p⟩:=Zq r I hn h;exact SeqAt.RcNeAt.list_none p hu'
   |bl c=>cases rw';obtain⟨rfl,_,p⟩:=Zq r I hn h;exact SeqAt.RcNeAt.list_bool _ p hu'
   |int j=>obtain⟨z,rfl⟩:=rw';obtain⟨rfl,_,p⟩:=Zq r I hn h;exact SeqAt.RcNeAt.list_int _ _ p hu'
   |str j=>obtain⟨z,rfl⟩:=rw';obtain⟨rfl,_,p⟩:=Zq r I hn h;exact SeqAt.RcNeAt.list_str _ _ p hu'
   |tup h2 q2=>cases rw';obtain⟨_,_,p2,_⟩:=I.tuple h2;obtain⟨rfl,_,p⟩:=Zq r I hn h;exact SeqAt.RcNeAt.list_tuple p p2 hu'
   |@ref m c hm =>
    cases rw'
    obtain⟨vs,ws,ds,es,h1,q1,h2,q2,h⟩:=QdX r hn hm h
    exact Qh9 hu' I h1 q1 h2 q2 ih h
   |fl _ _=>cases h
  |fl _ _=>cases e <;> cases h
 exact go _ _ _ _ ⟨.bl _,H,I,rfl,q⟩
theorem Qib{K:Frag}:Qad K ca (rEqN K ca false) pEq:=by
 intro Φ σ H μ g x y dx dy Q r qx qy p
 unfold pEq at p
 cases h:eqN g 8 dx dy with
 |none=>rw[h]at p;exact p.elim
 |some b=>rw[h]at p;exact⟨μ,g,dx,dy,b,r,qx,qy,h,p _ H μ .refl r (.bl _)⟩
theorem Qlj{K:Frag}:Qad K ca (rEqN K ca true) pNe:=by
 intro Φ σ H μ g x y dx dy Q r qx qy p
 unfold pNe at p
 cases h:eqN g 8 dx dy with
 |none=>rw[h]at p;exact p.elim
 |some b=>rw[h]at p;exact⟨μ,g,dx,dy,b,r,qx,qy,h,p _ H μ .refl r (.bl _)⟩
end
section
variable{X:Cx}{ca:Nat->Addr}{a b e:Expr}{ma mb me:ME}{pos p:Pos}{k:Nat}
theorem hu16{A:Around}(hr:Room k A):A.units+16<cLine:=by have:=hr.units;omega
theorem r_eq(hr:Room k X.A)(ha:PE3 ca X a ma)(hb:PE3 ca X b mb):PE3 ca X (.Compare a [.Eq] [b] pos) (mOp2 pEq ma mb):=QhX (λpn Φ=>Qkv (X:=xat X ca pn Φ) (hu16 hr)) Qib ha hb (Qaa b)
theorem QY(hr:Room k X.A)(ha:PE3 ca X a ma)(hb:PE3 ca X b mb):PT3 ca X (.Compare a [.Eq] [b] pos) (Qj (mOp2 pEq ma mb)):=Js (λpn Φ=>Qkv (X:=xat X ca pn Φ) (hu16 hr)) Qib ha hb (Qaa b)
theorem Jv(hr:Room k X.A)(ha:PE3 ca X a ma)(hb:PE3 ca X b mb):PT3 ca X (.Compare a [.NotEq] [b] pos) (Qj (mOp2 pNe ma mb)):=Js (λpn Φ=>QmX (X:=xat X ca pn Φ) (hu16 hr)) Qlj ha hb (Qaa b)
theorem Qgq{K:Frag}{μ:List Addr}{H:Hp}{x:V}{d:D}(q:Den K μ H x d):decide (x=.non)=isNon d:=by cases q <;> simp[isNon]
theorem Qlk{K:Frag}:Qad K ca (λx y H Q=>y=.non/\Q (.bl (decide (x=.non))) H) pIs:=by
 intro Φ σ H μ g x y dx dy Q r qx qy p
 cases qy with
 |non=>exact⟨rfl,p _ H μ .refl r (by rw[Qgq qx];exact .bl _)⟩
 |_=>exact p.elim
theorem Qg2{K:Frag}:Qad K ca (λx y H Q=>y=.non/\Q (.bl (!decide (x=.non))) H) QeS:=by
 intro Φ σ H μ g x y dx dy Q r qx qy p
 cases qy with
 |non=>exact⟨rfl,p _ H μ .refl r (by rw[Qgq qx];exact .bl _)⟩
 |_=>exact p.elim
theorem Qbt(ha:PE3 ca X a ma)(hb:PE3 ca X b mb):PT3 ca X (.Compare a [.Is] [b] pos) (Qj (mOp2 pIs ma mb)):=Js (λ_ _=>Qmx) Qlk ha hb (Qaa b)
theorem Qgr(ha:PE3 ca X a ma)(hb:PE3 ca X b mb):PT3 ca X (.Compare a [.IsNot] [b] pos) (Qj (mOp2 QeS ma mb)):=Js (λ_ _=>Qk0) Qg2 ha hb (Qaa b)
theorem QdY{K:Frag}{μ:List Addr}{H:Hp}{vs:List V}{ds:List D}{i:Int}{d:D}(q:Dens K μ H vs ds)(h:atD ds i=some d):∃v,atI vs i=some v/\Den K μ H v d:=by
 unfold atD at h
 cases hj:ixD ds.length i with
 |none=>rw[hj]at h;cases h
 |some j =>
  rw[hj]at h
  obtain⟨v,h1,h2⟩:=q.get (show ds[j]?=some d from h)
  refine⟨v,?_,h2⟩
  unfold atI
  rw[q.length,show ixN ds.length i=some j from hj]
  exact h1
theorem Qll{K:Frag}:Qad K ca (rIx K) pIx:=by
 intro Φ σ H μ g x y dx dy Q r qx qy p
 unfold pIx at p
 cases qx with
 |tup ht hs =>
  cases qy with
  |int i =>
   dsimp only at p
   rename_i a vs ds
   cases h:atD ds i with
   |none=>rw[h]at p;exact p.elim
   |some d =>
    rw[h]at p
    obtain⟨v,h1,h2⟩:=QdY hs h
    exact .inr (.inl ⟨a,vs,i,v,rfl,rfl,ht,h1,p v H μ .refl r h2⟩)
  |_=>exact p.elim
 |fl ht hs =>
  cases qy with
  |int i =>
   dsimp only at p
   rename_i a vs ds
   cases h:atD ds i with
   |none=>rw[h]at p;exact p.elim
   |some d =>
    rw[h]at p
    obtain⟨v,h1,h2⟩:=QdY hs h
    exact .inl ⟨a,vs,i,v,rfl,rfl,ht.sq,h1,p v H μ .refl r h2⟩
  |_=>exact p.elim
 |@ref n a hn =>
  cases qy with
  |int i =>
   dsimp only at p
   cases hg:g[n]? with
   |none=>rw[hg]at p;exact p.elim
   |some o =>
    rw[hg]at p
    obtain⟨a',ha',ob⟩:=r.addr hg
    rw[hn]at ha';cases ha'
    cases o with
    |lst ds =>
     obtain⟨vs,hH,hs⟩:=ob
     dsimp only at p
     cases h:atD ds i with
     |none=>rw[h]at p;exact p.elim
     |some d =>
      rw[h]at p
      obtain⟨v,h1,h2⟩:=QdY hs h
      exact .inl ⟨a,vs,i,v,rfl,rfl,.of hH,h1,p v H μ .refl r h2⟩
    |_=>exact p.elim
  |_=>exact p.elim
 |str s =>
  cases qy with
  |int i =>
   dsimp only at p
   by_cases z:s.length<=SZ
   ·rw[Uh z]at p
    cases h:atD s.cps.toList i with
    |none=>rw[h]at p;exact p.elim
    |some c =>
     rw[h]at p
     exact .inr (.inr ⟨s,i,c,rfl,rfl,Uw z Jt,h,p _ H μ .refl r (.str _)⟩)
   ·rw[Um z]at p;exact p.elim
  |_=>exact p.elim
 |_=>cases qy <;> exact p.elim
theorem Qg(ha:PE3 ca X a ma)(hb:PE3 ca X b mb)(hs:Qfs b:=by exact λ_ _=>rfl):PE3 ca X (.Subscript a b pos) (mOp2 pIx ma mb):=r_ix (λ_ _=>QmG) Qll ha hb hs
theorem Qlm{x:Str}{id:String}{r:List V->Hp->VK->Prop}{f:D->G->Res D}(hc:∀pn Φ,CallR (xat X ca pn Φ) (.builtin id) r)(hm:X.mg x=none)(hv:bootBuiltins x=some (.builtin id))(hp:∀(Φ:XS) (σ:L2.St) (H:Hp) (μ:List Addr) (g:G) (y:V) (d:D) (Q:VK),GRep X.K ca μ H g->Den X.K μ H y d->Post X.K ca Φ σ Q H μ (f d g)->r [y] H Q)(he:PE3 ca X e me)(hg:Gl X x)(hn:x ≠ "__name__")(hdb:(x == ("__debug__" : Str))=false)(hs:starEach [e] X.env=[(false,eval e X.env)])(hpl:(backTo pos (starEach [] X.env)).any (·.1)=false):PE3 ca X (.Call (.Name x p) [e] [] pos) (mOp1 f me) :=
 λpn Φ=>ZP (QaM (X:=xat X ca pn Φ) (hc pn Φ) hg hm hv (Qa0 he Qf hs pn Φ) hn hdb hs hpl) λσ H Q hQ=>by
  obtain⟨σ3,g,μ,R,q⟩:=hQ
  refine⟨σ3,g,μ,R,?_⟩
  unfold mOp1 at q
  unfold Qa mNil
  cases hm:me σ3 g with
  |raise _ _=>rw[hm]at q;exact q
  |stuck=>rw[hm]at q;exact q.elim
  |ok d g1 =>
   rw[hm,Res.bind_ok]at q
   rw[Res.bind_ok,Res.bind_ok]
   intro vs H1 μ1 e1 r1 q1
   cases q1 with
   |cons h1 h2 =>
    cases h2
    exact hp Φ σ H1 μ1 g1 _ d Q r1 h1 (q.go e1)
end
section
variable{X:Cx}{ca:Nat->Addr}{a b e o:Expr}{ma mb me mo:ME}{pos p apos:Pos}{k:Nat}
theorem r_ty{x:Str}{T:String}{r:List V->Hp->VK->Prop}{f:D->G->Res D}(hc:∀pn Φ,CallR (xat X ca pn Φ) (.type T) r)(hm:X.mg x=none)(hv:bootBuiltins x=some (.type T))(hp:∀(Φ:XS) (σ:L2.St) (H:Hp) (μ:List Addr) (g:G) (y:V) (d:D) (Q:VK),GRep X.K ca μ H g->Den X.K μ H y d->Post X.K ca Φ σ Q H μ (f d g)->r [y] H Q)(he:PE3 ca X e me)(hg:Gl X x)(hn:x ≠ "__name__")(hdb:(x == ("__debug__" : Str))=false)(hs:starEach [e] X.env=[(false,eval e X.env)])(hpl:(backTo pos (starEach [] X.env)).any (·.1)=false):PE3 ca X (.Call (.Name x p) [e] [] pos) (mOp1 f me) :=
 λpn Φ=>ZP (QhJ (X:=xat X ca pn Φ) (hc pn Φ) hg hm hv (Qa0 he Qf hs pn Φ) hn hdb hs hpl) λσ H Q hQ=>by
  obtain⟨σ3,g,μ,R,q⟩:=hQ
  refine⟨σ3,g,μ,R,?_⟩
  unfold mOp1 at q
  unfold Qa mNil
  cases hm:me σ3 g with
  |raise _ _=>rw[hm]at q;exact q
  |stuck=>rw[hm]at q;exact q.elim
  |ok d g1 =>
   rw[hm,Res.bind_ok]at q
   rw[Res.bind_ok,Res.bind_ok]
   intro vs H1 μ1 e1 r1 q1
   cases q1 with
   |cons h1 h2 =>
    cases h2
    exact hp Φ σ H1 μ1 g1 _ d Q r1 h1 (q.go e1)
theorem Zs(hm:X.mg "len" = none)(he:PE3 ca X e me)(hg:Gl X "len":=by rfl)(hs:starEach [e] X.env=[(false,eval e X.env)]:=by rfl)(hpl:(backTo pos (starEach [] X.env)).any (·.1)=false:=by rfl):
  PE3 ca X (.Call (.Name "len" p) [e] [] pos) (mOp1 pLen me) :=
 Qlm (r:=λxs H Q=>∃p ys,xs=[V.ref p]/\(SqL X.K H p ys\/SqT X.K H p ys)/\Q (V.int (ys.length:Int)) H) (λ_ _=>QeN) hm boot_len (λΦ σ H μ g y d Q r q pp=>by
  unfold pLen at pp
  cases q with
  |@tup t vs ds ht hs=>exact⟨t,vs,rfl,.inr ht,pp _ H μ .refl r (by rw[hs.length];exact .int _)⟩
  |@fl t vs ds ht hs=>exact⟨t,vs,rfl,.inl ht.sq,pp _ H μ .refl r (by rw[hs.length];exact .int _)⟩
  |@ref n t hn =>
   dsimp only at pp
   cases hgn:g[n]? with
   |none=>rw[hgn]at pp;exact pp.elim
   |some ob =>
    rw[hgn]at pp
    obtain⟨t',ht',orp⟩:=r.addr hgn
    rw[hn]at ht';cases ht'
    cases ob with
    |lst ds=>obtain⟨vs,hH,q⟩:=orp;exact⟨t,vs,rfl,.inl (.of hH),pp _ H μ .refl r (by rw[q.length];exact .int _)⟩
    |_=>exact pp.elim
  |_=>exact pp.elim) he hg (by decide) (by decide) hs hpl
theorem Ye(hm:X.mg "tuple" = none)(he:PE3 ca X e me)(hg:Gl X "tuple":=by rfl)(hs:starEach [e] X.env=[(false,eval e X.env)]:=by rfl)(hpl:(backTo pos (starEach [] X.env)).any (·.1)=false:=by rfl):
  PE3 ca X (.Call (.Name "tuple" p) [e] [] pos) (mOp1 QZ me) :=
 r_ty (r:=λxs H Q=>∃p ys,xs=[V.ref p]/\((SqL X.K H p ys/\∀l,H l=none->Q (.ref l) (upd H l (.tup ys)))\/(SqT X.K H p ys/\Q (.ref p) H))) (λ_ _=>QdR) hm boot_tuple (λΦ σ H μ g y d Q r q pp=>by
  unfold QZ at pp
  cases q with
  |@tup t vs ds ht hs=>exact⟨t,vs,rfl,.inr ⟨ht,pp _ H μ .refl r (.tup ht hs)⟩⟩
  |@fl t vs ds ht hs=>exact⟨t,vs,rfl,.inl ⟨ht.sq,λl hl=>pp _ _ μ (Zy hl) (r.new hl) (.tup (.of QN) (hs.mono (Zy hl)))⟩⟩
  |@ref n t hn =>
   dsimp only at pp
   cases hgn:g[n]? with
   |none=>rw[hgn]at pp;exact pp.elim
   |some ob =>
    rw[hgn]at pp
    obtain⟨t',ht',orp⟩:=r.addr hgn
    rw[hn]at ht';cases ht'
    cases ob with
    |lst ds=>obtain⟨vs,hH,q⟩:=orp;exact⟨t,vs,rfl,.inl ⟨.of hH,λl hl=>pp _ _ μ (Zy hl) (r.new hl) (.tup (.of QN) (q.mono (Zy hl)))⟩⟩
    |_=>exact pp.elim
  |_=>exact pp.elim) he hg (by decide) (by decide) hs hpl
theorem Qdw(hm:X.mg "list" = none)(he:PE3 ca X e me)(hg:Gl X "list":=by rfl)(hs:starEach [e] X.env=[(false,eval e X.env)]:=by rfl)(hpl:(backTo pos (starEach [] X.env)).any (·.1)=false:=by rfl):
  PE3 ca X (.Call (.Name "list" p) [e] [] pos) (mOp1 Qcb me) :=
 r_ty (r:=λxs H Q=>∃p ys,xs=[V.ref p]/\(SqL X.K H p ys\/SqT X.K H p ys)/\∀l,H l=none->Q (.ref l) (upd H l (.lst ys))) (λ_ _=>QeO) hm boot_list (λΦ σ H μ g y d Q r q pp=>by
  have el:∀l:Addr,(μ++[l])[g.length]?=some l:=λl=>by rw[<-r.len];simp
  unfold Qcb at pp
  cases q with
  |@fl t vs ds ht hs=>exact⟨t,vs,rfl,.inl ht.sq,λl hl=>pp _ _ (μ++[l]) (Q4 hl) (r.push hl ⟨vs,QN,hs.mono (Q4 hl)⟩) (.ref (el l))⟩
  |@tup t vs ds ht hs=>exact⟨t,vs,rfl,.inr ht,λl hl=>pp _ _ (μ++[l]) (Q4 hl) (r.push hl ⟨vs,QN,hs.mono (Q4 hl)⟩) (.ref (el l))⟩
  |@ref n t hn =>
   dsimp only at pp
   cases hgn:g[n]? with
   |none=>rw[hgn]at pp;exact pp.elim
   |some ob =>
    rw[hgn]at pp
    obtain⟨t',ht',orp⟩:=r.addr hgn
    rw[hn]at ht';cases ht'
    cases ob with
    |lst ds=>obtain⟨vs,hH,q⟩:=orp;exact⟨t,vs,rfl,.inl (.of hH),λl hl=>pp _ _ (μ++[l]) (Q4 hl) (r.push hl ⟨vs,QN,q.mono (Q4 hl)⟩) (.ref (el l))⟩
    |_=>exact pp.elim
  |_=>exact pp.elim) he hg (by decide) (by decide) hs hpl
theorem Qbc(hm:X.mg "int" = none)(he:PE3 ca X e me)(hg:Gl X "int":=by rfl)(hs:starEach [e] X.env=[(false,eval e X.env)]:=by rfl)(hpl:(backTo pos (starEach [] X.env)).any (·.1)=false:=by rfl):
  PE3 ca X (.Call (.Name "int" p) [e] [] pos) (mOp1 pInt me) :=
 r_ty (λ_ _=>QhF) hm boot_int (λΦ σ H μ g y d Q r q pp=>by
  cases q with
  |int i=>exact .inl ⟨i,rfl,pp _ H μ .refl r (.int _)⟩
  |bl b=>exact .inr ⟨b,rfl,pp _ H μ .refl r (.int _)⟩
  |_=>exact pp.elim) he hg (by decide) (by decide) hs hpl
theorem Qcn(ho:PE3 ca X o mo)(he:PE3 ca X e me)(hbase:attributeBase o "append" X.env (eval o X.env)=eval o X.env:=by rfl)(hfew:((backTo pos (starEach [e] X.env)).all (λx=>!x.1) && (backToKw pos (keywordEach [] X.env)).all (λx=>x.1.isSome) && decide ([e].length+([]:List Keyword).length+(if ([]:List Keyword).isEmpty then 0 else 1)<30))=true:=by rfl)(hline:(apos.endLine == pos.line)=true:=by rfl)(hs:starEach [e] X.env=(false,eval e X.env)::starEach [] X.env:=by rfl)(hplain:(backTo pos (starEach [] X.env)).any (·.1)=false:=by rfl):
  PE3 ca X (.Call (.Attribute o "append" apos) [e] [] pos) (Jr mo me) :=
 λpn Φ=>ZP (QmJ (X:=xat X ca pn Φ) RS PySem.F.slot_list_append PySem.F.type_list_append QhM (ho pn Φ) (Qa0 he Qf hs pn Φ) hbase hfew hline hs hplain) λσ H Q ⟨σ3,g,μ,R,q⟩=>ZO (Qba R q) λx H1 hQ=>by
  obtain⟨d,g1,μ1,e1,R1,q1,p1⟩:=hQ
  cases q1 with
  |@ref n t hn =>
   dsimp only at p1
   cases hgn:g1[n]? with
   |none=>rw[hgn]at p1;exact p1.elim
   |some ob =>
    rw[hgn]at p1
    obtain⟨t',ht',orp⟩:=R1.g.addr hgn
    rw[hn]at ht';cases ht'
    cases ob with
    |lst ds0 =>
     obtain⟨vs0,hH0,_⟩:=orp
     dsimp only at p1
     refine⟨.inl ⟨rfl,_,.of hH0⟩,σ3,g1,μ1,R1,?_⟩
     unfold Qa mNil
     cases hm:me σ3 g1 with
     |raise _ _=>rw[hm]at p1;exact p1
     |stuck=>rw[hm]at p1;exact p1.elim
     |ok y g2 =>
      rw[hm,Res.bind_ok]at p1
      rw[Res.bind_ok,Res.bind_ok]
      intro vs H2 μ2 e2 r2 q2
      cases q2 with
      |@cons vy _ _ _ h1 h2 =>
       cases h2
       cases hg2:g2[n]? with
       |none=>rw[hg2]at p1;exact p1.elim
       |some ob2 =>
        rw[hg2]at p1
        obtain⟨t',ht',orp⟩:=r2.addr hg2
        rw[e2.at hn]at ht';cases ht'
        cases ob2 with
        |lst ds =>
         obtain⟨ws,hH,qs⟩:=orp
         dsimp only at p1
         by_cases z:ds.length<SZ
         ·rw[Uh z]at p1
          have ex:Ext X.K μ2 H2 μ2 (upd H2 t (.lst (ws++[vy]))):=QbP hH (by intro _ z;cases z) (by intro _ _ z;cases z)
          refine⟨t,ws,_,rfl,rfl,hH,by rw[qs.length];exact Ux z Jt,p1 _ _ μ2 (e2.trans ex) ?_ .non⟩
          exact r2.set (e2.at hn) hH (by intro _ z;cases z) (by intro _ _ z;cases z) ⟨_,QN,(qs.mono ex).append (.cons (h1.mono ex) .nil)⟩
         ·rw[Um z]at p1;exact p1.elim
        |_=>exact p1.elim
    |_=>exact p1.elim
  |_=>exact p1.elim
theorem Dens.dropLast{K:Frag}{μ:List Addr}{H:Hp}{vs:List V}{ds:List D}(h:Dens K μ H vs ds):Dens K μ H vs.dropLast ds.dropLast:=by
 rw[Tz,Tz,h.length]
 exact h.take _
end
def IsIt(b:Bool)(h:Heap)(i l:Addr)(k:Nat):Prop:=if b=true then h.IsListIter i l k else h.IsTupleIter i l k
def IsSq(b:Bool)(h:Heap)(l:Addr)(xs:Array Value):Prop:=if b=true then h.IsList l xs else h.IsTuple l xs
theorem IsIt.at{b:Bool}{h h':Heap}{i l:Addr}{k:Nat}(x:IsIt b h i l k)(hk:∀o,h.get? i=some o->h'.get? i=some o):IsIt b h' i l k:=by
 cases b
 ·exact Heap.IsTupleIter.at (show h.IsTupleIter i l k from x) hk
 ·exact Heap.IsListIter.at (show h.IsListIter i l k from x) hk
theorem IsSq.at{b:Bool}{h h':Heap}{l:Addr}{xs:Array Value}(x:IsSq b h l xs)(hk:∀o,h.get? l=some o->h'.get? l=some o):IsSq b h' l xs:=by
 cases b
 ·obtain⟨o,e,c⟩:=(show h.IsTuple l xs from x);exact⟨o,hk o e,c⟩
 ·obtain⟨o,e,c⟩:=(show h.IsList l xs from x);exact⟨o,hk o e,c⟩
theorem IsIt.lt{b:Bool}{h:Heap}{i l:Addr}{k:Nat}(x:IsIt b h i l k):i<h.objs.size:=by
 cases b
 ·obtain⟨o,e,_⟩:=(show h.IsTupleIter i l k from x);exact Uk e
 ·obtain⟨o,e,_⟩:=(show h.IsListIter i l k from x);exact Uk e
theorem IsIt.rec{b:Bool}{h:Heap}{i l:Addr}{k:Nat}(x:IsIt b h i l k):∃o,h.get? i=some o/\∀v,o.data≠.cell v:=by
 cases b
 ·obtain⟨o,e,c,d⟩:=(show h.IsTupleIter i l k from x);exact⟨o,e,λv z=>by rw[d]at z;cases z⟩
 ·obtain⟨o,e,c,d⟩:=(show h.IsListIter i l k from x);exact⟨o,e,λv z=>by rw[d]at z;cases z⟩
theorem IsSq.lt{b:Bool}{h:Heap}{l:Addr}{xs:Array Value}(x:IsSq b h l xs):l<h.objs.size:=by
 cases b
 ·obtain⟨o,e,_⟩:=(show h.IsTuple l xs from x);exact Uk e
 ·obtain⟨o,e,_⟩:=(show h.IsList l xs from x);exact Uk e
section
variable{prog:Program}{w:World}{A:Around}{E:Value->Shared->Prop}{s:Shared}
theorem Qg3{it t:Addr}{i:Nat}{items:Array Value}{x:Value}{Q:Value->Shared->Prop}(hit:s.heap.IsTupleIter it t i)(ht:s.heap.IsTuple t items)(hx:items[i]?=some x)(hQ:∀h',h'.IsTupleIter it t (i+1)->Heap.SameBut it s.heap h'->Q x {s with heap:=h'}):
  wpAny (model prog w) A (Builtin.SmallTypes.nextOf (.ref it)) Q E s:=by
 obtain⟨o,ho,hc,hd⟩:=id hit;obtain⟨ol,hol,_,nl,hdl⟩:=ht;unfold Builtin.SmallTypes.nextOf
 refine Ua (U2 (name:=Str.ofString "__next__") hit.typeIs To (Tx To hit.typeIs Rv ?_ (Ri _)))
 show wpAny _ _ (field (.ref it) 0 >>= _) _ _ s;refine Ua (UK ho hd (x:=.ref t) rfl ?_)
 show wpAny _ _ (if (Value.ref t == Value.none)=true then _ else _) _ _ s;rw[Um (show ¬((Value.ref t == Value.none)=true) from Uc)]
 show wpAny _ _ (field (.ref it) 1 >>= _) _ _ s;refine Ua (UK ho hd (x:=.int i 0) rfl ?_)
 show wpAny _ _ (seqItems? (.ref t) >>= _) _ _ s;refine Ua (Tq hol hdl ?_);simp only[T4,hx]
 refine Ua (T6 ho hd (by simp) (Uj ⟨x,rfl,Uj (hQ _ ⟨_,T7 _ ho (Obj.isFreed_of_fields (TU hd _)),(Obj.cls_mapFields ..).trans hc,by rw[TU hd];simp[rawInt]⟩ (Heap.SameBut.update ..))⟩))
theorem QdZ{it t:Addr}{i:Nat}{items:Array Value}{Q:Value->Shared->Prop}(hh:A.handled=none)(hit:s.heap.IsTupleIter it t i)(ht:s.heap.IsTuple t items)(hx:items[i]?=none)(hE:∀h' e,Heap.ExtBut it s.heap h'->(∃o,h'.get? e=some o/\o.cls=.type "StopIteration")->E (.ref e) {s with heap:=h'}):wpAny (model prog w) A (Builtin.SmallTypes.nextOf (.ref it)) Q E s:=by
 obtain⟨o,ho,hc,hd⟩:=id hit;obtain⟨ol,hol,_,nl,hdl⟩:=ht;unfold Builtin.SmallTypes.nextOf
 refine Ua (U2 (name:=Str.ofString "__next__") hit.typeIs To (Tx To hit.typeIs Rv ?_ (Ri _)))
 show wpAny _ _ (field (.ref it) 0 >>= _) _ _ s;refine Ua (UK ho hd (x:=.ref t) rfl ?_)
 show wpAny _ _ (if (Value.ref t == Value.none)=true then _ else _) _ _ s;rw[Um (show ¬((Value.ref t == Value.none)=true) from Uc)]
 show wpAny _ _ (field (.ref it) 1 >>= _) _ _ s;refine Ua (UK ho hd (x:=.int i 0) rfl ?_)
 show wpAny _ _ (seqItems? (.ref t) >>= _) _ _ s;refine Ua (Tq hol hdl ?_);simp only[T4,hx]
 refine Ua (WU (Ua (T6 ho hd (by simp) ?_)))
 show wpAny _ _ (newExc (.type "StopIteration") [] >>= _) _ _ _;refine Ua ?_;simp only[newExc,newTuple];refine Ua (U6 ?_ (by size_fits))
 refine Ua (m:=firstArgMember _ _) (Wq (a:=Value.none) (by first|rfl|(simp only[firstArgMember];rfl)) ?_);refine U6 ?_ (by size_fits);simp only[raiseNew]
 refine Ua (wpAny_handled ?_);(first|rw[show A.in1.handled=none from hh]|rw[hh]);refine Ua (Uj (wpAny_throw ?_))
 exact hE _ _ (((Heap.SameBut.update ..).extBut.push _).push _) ⟨_,Ur _ rfl,rfl⟩
theorem Qic{b:Bool}{it l:Addr}{i:Nat}{xs:Array Value}{x:Value}{Q:Value->Shared->Prop}(hit:IsIt b s.heap it l i)(hl:IsSq b s.heap l xs)(hx:xs[i]?=some x)(hQ:∀h',IsIt b h' it l (i+1)->Heap.SameBut it s.heap h'->Q x {s with heap:=h'}):
  wpAny (model prog w) A (Builtin.SmallTypes.nextOf (.ref it)) Q E s:=by
 cases b
 ·exact Qg3 hit hl hx hQ
 ·exact wpAny_nextOf_list_item hit hl hx hQ
theorem Qid{b:Bool}{it l:Addr}{i:Nat}{xs:Array Value}{Q:Value->Shared->Prop}(hh:A.handled=none)(hit:IsIt b s.heap it l i)(hl:IsSq b s.heap l xs)(hx:xs[i]?=none)(hE:∀h' e,Heap.ExtBut it s.heap h'->(∃o,h'.get? e=some o/\o.cls=.type "StopIteration")->E (.ref e) {s with heap:=h'}):wpAny (model prog w) A (Builtin.SmallTypes.nextOf (.ref it)) Q E s:=by
 cases b
 ·exact QdZ hh hit hl hx hE
 ·exact wpAny_nextOf_list_end hh hit hl hx hE
theorem Qln{b1 b2:Bool}{z TI TO i1 i2 l1 l2:Addr}{k:Nat}{xs ys:Array Value}{x y a b:Value}{Q:Value->Shared->Prop}(D:ZipApart z TI TO i1 i2 l1 l2)(hz:IsZip s.heap z TI TO .none)(hTI:IsPair s.heap TI (.ref i1) (.ref i2))(hTO:IsPair s.heap TO a b)(h1:IsIt b1 s.heap i1 l1 k)(h2:IsIt b2 s.heap i2 l2 k)(hl1:IsSq b1 s.heap l1 xs)(hl2:IsSq b2 s.heap l2 ys)(hx:xs[k]?=some x)(hy:ys[k]?=some y)(hQ:∀h',IsZip h' z TI TO (rawInt s.heap.objs.size)->IsPair h' TO x y->IsIt b1 h' i1 l1 (k+1)->IsIt b2 h' i2 l2 (k+1)->IsPair h' s.heap.objs.size x y->h'.objs.size=s.heap.objs.size+1 ->
   (∀c o,c≠z->c≠TO->c≠i1->c≠i2->s.heap.get? c=some o->h'.get? c=some o)->Q (.ref s.heap.objs.size) {s with heap:=h'}):
  wpAny (model prog w) A (Builtin.«zip.__next__» ⟨[.ref z],[]⟩) (λfin s'=>∃v,fin=.done (.ret v)/\Q v s') E s:=by
 show wpAny _ _ (field (.ref z) 2 >>= _) _ _ _;refine Ua (UK hz rfl (x:=.bool false) rfl ?_)
 show wpAny _ _ (field (.ref z) 3 >>= _) _ _ _;refine Ua (UK hz rfl (x:=.ref TI) rfl ?_);refine Ua (Tq hTI rfl ?_)
 show wpAny _ _ (Builtin.SmallTypes.ownedTupleIsFree (.ref z) >>= _) _ _ _;refine Ua ?_;unfold Builtin.SmallTypes.ownedTupleIsFree
 refine Ua (UK hz rfl (x:=.none) rfl (Uj ?_));simp only[T8];refine Ua (WU ?_);refine Ua (UK hz rfl (x:=.ref TO) rfl ?_)
 refine Ua (Tp hz (by simp) λg1 hz1 hs1=>?_);replace hz1:IsZip g1 z TI TO .ellipsis:=hz1
 refine Ua ?_;simp only[List.zipIdx_cons,List.zipIdx_nil,Rm,RH];refine Ua (Ua (RP ?_))
 show wpAny _ _ (Builtin.SmallTypes.nextOf (.ref i1) >>= _) _ _ _
 refine Ua (Qic (h1.at λo e=>hs1.extBut _ o D.i1z e) (hl1.at λo e=>hs1.extBut _ o D.l1z e) hx λg2 h12 hs2=>Uj ?_)
 have hTO2:IsPair g2 TO a b:=hs2.extBut _ _ D.TOi1 (hs1.extBut _ _ D.TOz hTO)
 refine Ua (Tq hTO2 rfl ?_);refine Ua (Rf hTO2 λg3 hTO3 hs3=>?_);replace hTO3:IsPair g3 TO x b:=hTO3
 refine Ua (wpAny_letGo (Uj ?_));refine Ua (Ua (RP ?_))
 show wpAny _ _ (Builtin.SmallTypes.nextOf (.ref i2) >>= _) _ _ _
 refine Ua (Qic (h2.at λo e=>hs3.extBut _ o D.TOi2.symm (hs2.extBut _ o D.i12.symm (hs1.extBut _ o D.i2z e))) (hl2.at λo e=>hs3.extBut _ o D.l2TO (hs2.extBut _ o D.l2i1 (hs1.extBut _ o D.l2z e))) hy λg4 h24 hs4=>Uj ?_)
 have hTO4:IsPair g4 TO x b:=hs4.extBut _ _ D.TOi2 hTO3
 refine Ua (Tq hTO4 rfl ?_);refine Ua (Rf hTO4 λg5 hTO5 hs5=>?_);replace hTO5:IsPair g5 TO x y:=hTO5
 refine Ua (wpAny_letGo (Uj (Uj ?_)));refine Ua (Tq hTO5 rfl ?_);refine Ua (wpAny_newTuple ?_)
 have hsz:g5.objs.size=s.heap.objs.size:=by rw[hs5.1,hs4.1,hs3.1,hs2.1,hs1.1]
 have hz5:IsZip g5 z TI TO .ellipsis:=hs5.extBut _ _ D.TOz.symm (hs4.extBut _ _ D.i2z.symm (hs3.extBut _ _ D.TOz.symm (hs2.extBut _ _ D.i1z.symm hz1)))
 have hk5:∀c o,c≠z->c≠TO->c≠i1->c≠i2->s.heap.get? c=some o->g5.get? c=some o:=λc o c1 c2 c3 c4 e=>hs5.extBut _ _ c2 (hs4.extBut _ _ c4 (hs3.extBut _ _ c2 (hs2.extBut _ _ c3 (hs1.extBut _ _ c1 e))))
 have h15:IsIt b1 g5 i1 l1 (k+1):=h12.at λo e=>hs5.extBut _ o D.TOi1.symm (hs4.extBut _ o D.i12 (hs3.extBut _ o D.TOi1.symm e))
 have h25:IsIt b2 g5 i2 l2 (k+1):=h24.at λo e=>hs5.extBut _ o D.TOi2.symm e
 have hzlt:z<g5.objs.size:=Uk hz5
 show wpAny _ _ (Builtin.SmallTypes.ownedTupleHandOut (.ref z) (.ref g5.objs.size) >>= _) _ _ _
 refine Ua ?_;unfold Builtin.SmallTypes.ownedTupleHandOut
 have hz6:IsZip (g5.push {cls:=.type "tuple",data:=.seq #[x,y]}) z TI TO .ellipsis:=Ub _ hz5
 refine Ua (Tp hz6 (by simp) λg7 hz7 hs7=>?_);replace hz7:IsZip g7 z TI TO (rawInt g5.objs.size):=hz7
 refine Tp hz7 (by simp) λg8 hz8 hs8=>?_;replace hz8:IsZip g8 z TI TO (rawInt g5.objs.size):=hz8
 have upz:∀c o,c≠z->g5.get? c=some o->g8.get? c=some o:=λc o c1 e=>hs8.extBut _ _ c1 (hs7.extBut _ _ c1 (Ub _ e))
 have hT8:IsPair g8 g5.objs.size x y:=hs8.extBut _ _ (Rw hzlt) (hs7.extBut _ _ (Rw hzlt) (Ur _ rfl))
 have hsz8:g8.objs.size=g5.objs.size+1:=by rw[hs8.1,hs7.1,U8]
 rw[hsz]at hz8 hT8 hsz8;refine Uj ⟨_,rfl,?_⟩;show Q (.ref g5.objs.size) _;rw[hsz]
 exact hQ g8 hz8 (upz _ _ D.TOz hTO5) (h15.at λo e=>upz _ o D.i1z e) (h25.at λo e=>upz _ o D.i2z e) hT8 hsz8 λc o c1 c2 c3 c4 e=>upz c o c1 (hk5 c o c1 c2 c3 c4 e)
theorem QmY{b1 b2:Bool}{z TI TO i1 i2 l1 l2:Addr}{k:Nat}{xs ys:Array Value}{a b:Value}{Q:Fin->Shared->Prop}(hh:A.handled=none)(D:ZipApart z TI TO i1 i2 l1 l2)(hz:IsZip s.heap z TI TO .none)(hTI:IsPair s.heap TI (.ref i1) (.ref i2))(hTO:IsPair s.heap TO a b)(h1:IsIt b1 s.heap i1 l1 k)(h2:IsIt b2 s.heap i2 l2 k)(hl1:IsSq b1 s.heap l1 xs)(hl2:IsSq b2 s.heap l2 ys)(hend:xs[k]?=none\/ys[k]?=none)(hE:∀h' e,(∀c o,c≠z->c≠TO->c≠i1->c≠i2->s.heap.get? c=some o->h'.get? c=some o)->(∃o,h'.get? e=some o/\o.cls=.type "StopIteration")->E (.ref e) {s with heap:=h'}):
  wpAny (model prog w) A (Builtin.«zip.__next__» ⟨[.ref z],[]⟩) Q E s:=by
 show wpAny _ _ (field (.ref z) 2 >>= _) _ _ _;refine Ua (UK hz rfl (x:=.bool false) rfl ?_)
 show wpAny _ _ (field (.ref z) 3 >>= _) _ _ _;refine Ua (UK hz rfl (x:=.ref TI) rfl ?_);refine Ua (Tq hTI rfl ?_)
 show wpAny _ _ (Builtin.SmallTypes.ownedTupleIsFree (.ref z) >>= _) _ _ _;refine Ua ?_;unfold Builtin.SmallTypes.ownedTupleIsFree
 refine Ua (UK hz rfl (x:=.none) rfl (Uj ?_));simp only[T8];refine Ua (WU ?_);refine Ua (UK hz rfl (x:=.ref TO) rfl ?_)
 refine Ua (Tp hz (by simp) λg1 hz1 hs1=>?_);replace hz1:IsZip g1 z TI TO .ellipsis:=hz1
 refine Ua ?_;simp only[List.zipIdx_cons,List.zipIdx_nil,Rm,RH];refine Ua (Ua (RP ?_))
 show wpAny _ _ (Builtin.SmallTypes.nextOf (.ref i1) >>= _) _ _ _
 cases hx:xs[k]? with
 |none =>
  refine Ua (Qid hh (h1.at λo e=>hs1.extBut _ o D.i1z e) (hl1.at λo e=>hs1.extBut _ o D.l1z e) hx λg2 e hs2 he=>?_)
  obtain⟨oe,hoe,hce⟩:=he;have hz2:IsZip g2 z TI TO .ellipsis:=hs2 _ _ D.i1z.symm hz1
  have hez:e≠z:=λq=>by subst q;rw[hz2]at hoe;cases hoe;simp at hce
  refine Tp hz2 (by simp) λg3 _ hs3=>hE g3 e (λc o c1 _ c3 _ q=>hs3.extBut _ _ c1 (hs2 _ _ c3 (hs1.extBut _ _ c1 q))) ⟨oe,hs3.extBut _ _ hez hoe,hce⟩
 |some x =>
  have hy:ys[k]?=none:=by rcases hend with q|q;(· rw[hx]at q;cases q);exact q
  refine Ua (Qic (h1.at λo e=>hs1.extBut _ o D.i1z e) (hl1.at λo e=>hs1.extBut _ o D.l1z e) hx λg2 h12 hs2=>Uj ?_)
  have hTO2:IsPair g2 TO a b:=hs2.extBut _ _ D.TOi1 (hs1.extBut _ _ D.TOz hTO)
  refine Ua (Tq hTO2 rfl ?_);refine Ua (Rf hTO2 λg3 hTO3 hs3=>?_);refine Ua (wpAny_letGo (Uj ?_));refine Ua (Ua (RP ?_))
  show wpAny _ _ (Builtin.SmallTypes.nextOf (.ref i2) >>= _) _ _ _
  refine Ua (Qid hh (h2.at λo e=>hs3.extBut _ o D.TOi2.symm (hs2.extBut _ o D.i12.symm (hs1.extBut _ o D.i2z e))) (hl2.at λo e=>hs3.extBut _ o D.l2TO (hs2.extBut _ o D.l2i1 (hs1.extBut _ o D.l2z e))) hy λg4 e hs4 he=>?_)
  obtain⟨oe,hoe,hce⟩:=he;have hz4:IsZip g4 z TI TO .ellipsis:=hs4 _ _ D.i2z.symm (hs3.extBut _ _ D.TOz.symm (hs2.extBut _ _ D.i1z.symm hz1))
  have hez:e≠z:=λq=>by subst q;rw[hz4]at hoe;cases hoe;simp at hce
  refine Tp hz4 (by simp) λg5 _ hs5=>hE g5 e (λc o c1 c2 c3 c4 q=>hs5.extBut _ _ c1 (hs4 _ _ c4 (hs3.extBut _ _ c2 (hs2.extBut _ _ c3 (hs1.extBut _ _ c1 q))))) ⟨oe,hs5.extBut _ _ hez hoe,hce⟩
theorem Qg4{b1 b2:Bool}{z TI TO i1 i2 l1 l2:Addr}{k:Nat}{xs ys:Array Value}{x y a b:Value}{Q:Option Value->Shared->Prop}(D:ZipApart z TI TO i1 i2 l1 l2)(hz:IsZip s.heap z TI TO .none)(hTI:IsPair s.heap TI (.ref i1) (.ref i2))(hTO:IsPair s.heap TO a b)(h1:IsIt b1 s.heap i1 l1 k)(h2:IsIt b2 s.heap i2 l2 k)(hl1:IsSq b1 s.heap l1 xs)(hl2:IsSq b2 s.heap l2 ys)(hx:xs[k]?=some x)(hy:ys[k]?=some y)(hQ:∀h',IsZip h' z TI TO (rawInt s.heap.objs.size)->IsPair h' TO x y->IsIt b1 h' i1 l1 (k+1)->IsIt b2 h' i2 l2 (k+1)->IsPair h' s.heap.objs.size x y->h'.objs.size=s.heap.objs.size+1 ->
   (∀c o,c≠z->c≠TO->c≠i1->c≠i2->s.heap.get? c=some o->h'.get? c=some o)->Q (some (.ref s.heap.objs.size)) {s with heap:=h'}):wpAny (model prog w) A (pyNext (.ref z)) Q E s:=by
 have hT:s.TypeIs (.ref z) "zip":=⟨_,hz,rfl⟩;unfold pyNext
 exact Ua (RQ (U2 (name:=Str.ofString "__next__") hT Rn (Tx Rn hT F.entry_zip_next (Qln D hz hTI hTO h1 h2 hl1 hl2 hx hy λh' a1 a2 a3 a4 a5 a6 a7=>Uj (hQ h' a1 a2 a3 a4 a5 a6 a7)) (F.args_zip_next_1 _))))
theorem Qd0{b1 b2:Bool}{z TI TO i1 i2 l1 l2:Addr}{k:Nat}{xs ys:Array Value}{a b:Value}{Q:Option Value->Shared->Prop}(hh:A.handled=none)(D:ZipApart z TI TO i1 i2 l1 l2)(hz:IsZip s.heap z TI TO .none)(hTI:IsPair s.heap TI (.ref i1) (.ref i2))(hTO:IsPair s.heap TO a b)(h1:IsIt b1 s.heap i1 l1 k)(h2:IsIt b2 s.heap i2 l2 k)(hl1:IsSq b1 s.heap l1 xs)(hl2:IsSq b2 s.heap l2 ys)(hend:xs[k]?=none\/ys[k]?=none)(hQ:∀h',(∀c o,c≠z->c≠TO->c≠i1->c≠i2->s.heap.get? c=some o->h'.get? c=some o)->Q none {s with heap:=h'}):wpAny (model prog w) A (pyNext (.ref z)) Q E s:=by
 have hT:s.TypeIs (.ref z) "zip":=⟨_,hz,rfl⟩;unfold pyNext
 refine Ua (RQ (U2 (name:=Str.ofString "__next__") hT Rn (Tx Rn hT F.entry_zip_next (QmY hh D hz hTI hTO h1 h2 hl1 hl2 hend λh' e hk he=>?_) (F.args_zip_next_1 _))))
 obtain⟨o,ho,hc⟩:=he;refine Ua (wpAny_isInstance (T:="StopIteration") (b:=true) ⟨o,ho,hc⟩ isSubtype_stop ?_);exact Uj (hQ _ hk)
noncomputable def QmZ(b:Bool):String:=if b=true then "list_iterator" else "tuple_iterator"
noncomputable def Qd1(b:Bool)(l:Addr):Obj:={cls:=.type (QmZ b),data:=.fields #[.ref l,.int 0 0]}
theorem QeX{b:Bool}{l:Addr}{xs:Array Value}{Q:Value->Shared->Prop}(hl:IsSq b s.heap l xs)(h:Q (.ref s.heap.objs.size) {s with heap:=s.heap.push (Qd1 b l)}):wpAny (model prog w) A (pyIter (.ref l)) Q E s:=by
 cases b
 ·exact RF hl h
 ·exact RM hl h
theorem IsSq.push{b:Bool}{h:Heap}{l:Addr}{xs:Array Value}(x:IsSq b h l xs)(o:Obj):IsSq b (h.push o) l xs:=x.at λ_ e=>Ub _ e
noncomputable abbrev zH1(b1:Bool)(h:Heap)(l1:Addr):Heap:=h.push (Qd1 b1 l1)
noncomputable abbrev zH2(b1 b2:Bool)(h:Heap)(l1 l2:Addr):Heap:=(zH1 b1 h l1).push (Qd1 b2 l2)
noncomputable abbrev zH3(b1 b2:Bool)(h:Heap)(l1 l2:Addr):Heap:=(zH2 b1 b2 h l1 l2).push {cls:=.type "tuple",data:=.seq #[.ref h.objs.size,.ref (zH1 b1 h l1).objs.size]}
noncomputable abbrev zH4(b1 b2:Bool)(h:Heap)(l1 l2:Addr):Heap:=(zH3 b1 b2 h l1 l2).push {cls:=.type "tuple",data:=.seq #[.none,.none]}
noncomputable abbrev zH5(b1 b2:Bool)(h:Heap)(l1 l2:Addr):Heap:=(zH4 b1 b2 h l1 l2).push {cls:=.type "zip",data:=.fields #[.none,.bool false,.bool false,.ref (zH2 b1 b2 h l1 l2).objs.size,.ref (zH3 b1 b2 h l1 l2).objs.size]}
theorem Qlo(b1 b2:Bool)(l1 l2:Addr)(xs ys:Array Value):Meets (Builtin.«zip.__new__» ⟨[.type "zip",.ref l1,.ref l2],[]⟩) (λ_ R s=>IsSq b1 s.heap l1 xs/\IsSq b2 s.heap l2 ys/\R (.ok (.ret (.ref (zH4 b1 b2 s.heap l1 l2).objs.size))) {s with heap:=zH5 b1 b2 s.heap l1 l2}) :=
 .of_wp λprog w A R s h=>by
  obtain⟨hp,g,d,tk,os⟩:=s;obtain⟨hl1,hl2,h⟩:=h;have hsub:=sub_zip
  have hL1:IsSq b1 (Shared.heap ⟨hp,g,d,tk,os⟩) l1 xs:=hl1
  have hL2:IsSq b2 (Shared.heap ⟨hp.push (Qd1 b1 l1),g,d,tk,os⟩) l2 ys:=hl2.push _
  wp_walk using QeX hL1,QeX hL2
  exact⟨_,rfl,h⟩
theorem itAt(b:Bool){h:Heap}{i l:Addr}(e:h.get? i=some (Qd1 b l)):IsIt b h i l 0:=by
 cases b
 ·exact⟨_,e,rfl,rfl⟩
 ·exact⟨_,e,rfl,rfl⟩
theorem QjD{b1 b2:Bool}{l1 l2:Addr}{xs ys:Array Value}{Q:Value->Shared->Prop}(hl1:IsSq b1 s.heap l1 xs)(hl2:IsSq b2 s.heap l2 ys)(h:∀h',IsZip h' (s.heap.objs.size+4) (s.heap.objs.size+2) (s.heap.objs.size+3) .none->IsPair h' (s.heap.objs.size+2) (.ref s.heap.objs.size) (.ref (s.heap.objs.size+1))->IsPair h' (s.heap.objs.size+3) .none .none ->
   IsIt b1 h' s.heap.objs.size l1 0->IsIt b2 h' (s.heap.objs.size+1) l2 0->h'.objs.size=s.heap.objs.size+5->(∀c o,s.heap.get? c=some o->h'.get? c=some o)->Q (.ref (s.heap.objs.size+4)) {s with heap:=h'}):
  wpAny (model prog w) A (call (.type "zip") [.ref l1,.ref l2]) Q E s:=by
 refine callType_new F.called_zip (by decide) (F.typeCall_zip_2 _ _) (F.newCall_zip_2 _ _) (λobj=>F.args_object_init_3 obj _ _) F.entry_zip_new (Qlo b1 b2 l1 l2 xs ys) ⟨hl1,hl2,?_⟩
 have z1:(zH1 b1 s.heap l1).objs.size=s.heap.objs.size+1:=U8 ..
 have z2:(zH2 b1 b2 s.heap l1 l2).objs.size=s.heap.objs.size+2:=by rw[U8,z1]
 have z3:(zH3 b1 b2 s.heap l1 l2).objs.size=s.heap.objs.size+3:=by rw[U8,z2]
 have z4:(zH4 b1 b2 s.heap l1 l2).objs.size=s.heap.objs.size+4:=by rw[U8,z3]
 have z5:(zH5 b1 b2 s.heap l1 l2).objs.size=s.heap.objs.size+5:=by rw[U8,z4]
 have g5:(zH5 b1 b2 s.heap l1 l2).get? (zH4 b1 b2 s.heap l1 l2).objs.size=some _:=Ur _ rfl
 have g4:(zH5 b1 b2 s.heap l1 l2).get? (zH3 b1 b2 s.heap l1 l2).objs.size=some _:=Ub _ (Ur _ rfl)
 have g3:(zH5 b1 b2 s.heap l1 l2).get? (zH2 b1 b2 s.heap l1 l2).objs.size=some _:=Ub _ (Ub _ (Ur _ rfl))
 have g2:(zH5 b1 b2 s.heap l1 l2).get? (zH1 b1 s.heap l1).objs.size=some (Qd1 b2 l2):=Ub _ (Ub _ (Ub _ (Ur _ (by unfold Qd1;rfl))))
 have g1:(zH5 b1 b2 s.heap l1 l2).get? s.heap.objs.size=some (Qd1 b1 l1):=Ub _ (Ub _ (Ub _ (Ub _ (Ur _ (by unfold Qd1;rfl)))))
 show _/\_
 rw[z2,z3,z4]at g5;rw[z1,z2]at g3;rw[z3]at g4;rw[z1]at g2;rw[z4]
 exact⟨⟨_,g5,rfl⟩,h _ g5 g3 g4 (itAt b1 g1) (itAt b2 g2) z5 λc o q=>Ub _ (Ub _ (Ub _ (Ub _ (Ub _ q))))⟩
end
def Sq(b:Bool)(K:Frag)(H:Hp)(a:Addr)(xs:List V):Prop:=if b=true then SqL K H a xs else SqT K H a xs
theorem Sq.real{b:Bool}{X:Cx}{pins:List (Addr×Obj)}{σ:L2.St}{H:Hp}{s:Shared}{a:Addr}{xs:List V}(I:Inv X pins σ H s)(h:Sq b X.K H a xs):∃its:List Value,Vals xs its/\IsSq b s.heap a its.toArray:=by
 cases b
 ·obtain⟨its,r,p,_⟩:=I.tuple (show SqT X.K H a xs from h);exact⟨its,r,p⟩
 ·obtain⟨its,r,p,_⟩:=I.list (show SqL X.K H a xs from h);exact⟨its,r,p.isList⟩
theorem Sq.inj{b:Bool}{X:Cx}{pins:List (Addr×Obj)}{σ:L2.St}{H:Hp}{s:Shared}{a:Addr}{xs ys:List V}(I:Inv X pins σ H s)(h:Sq b X.K H a xs)(h':Sq b X.K H a ys):xs=ys:=by
 cases b
 ·exact I.tuple_inj h h'
 ·exact I.list_inj h h'
noncomputable def Itz(K:Frag)(b1 b2:Bool)(a1 a2:Addr):It :=
  ⟨λi H=>∃xs ys x y,Sq b1 K H a1 xs/\Sq b2 K H a2 ys/\xs[i]?=some x/\ys[i]?=some y,
   λi H v H'=>∃p x y,H p=none/\v=.ref p/\H'=upd H p (.tup [x,y])/\(∀xs,Sq b1 K H a1 xs->xs[i]?=some x)/\∀ys,Sq b2 K H a2 ys->ys[i]?=some y,
   λi H=>∃xs ys,Sq b1 K H a1 xs/\Sq b2 K H a2 ys/\(xs.length<=i\/ys.length<=i)⟩
noncomputable def Qn1(b1 b2:Bool)(z TI TO i1 i2 l1 l2:Addr)(i:Nat)(h:Heap):Prop :=
 IsZip h z TI TO .none/\IsPair h TI (.ref i1) (.ref i2)/\(∃a b,IsPair h TO a b)/\IsIt b1 h i1 l1 i/\IsIt b2 h i2 l2 i
theorem QjE{P:Program}{w:World}{K:Frag}{elts:List Expr}{kk:Nat}{tp:Pos}(b1 b2:Bool)(z TI TO i1 i2 l1 l2:Addr)(D:ZipApart z TI TO i1 i2 l1 l2):
  Turn P w K (.Tuple elts kk tp) (Itz K b1 b2 l1 l2) [z,TI,TO,i1,i2] z (Qn1 b1 b2 z TI TO i1 i2 l1 l2) where
 mem:=by simp
 obj:=λi h st b hb=>by
  obtain⟨hz,hTI,⟨a,c,hTO⟩,h1,h2⟩:=st
  have hb':b=z\/b=TI\/b=TO\/b=i1\/b=i2:=by simpa using hb
  rcases hb' with rfl|rfl|rfl|rfl|rfl
  ·exact⟨_,hz,λv q=>by cases q⟩
  ·exact⟨_,hTI,λv q=>by cases q⟩
  ·exact⟨_,hTO,λv q=>by cases q⟩
  ·exact h1.rec
  ·exact h2.rec
 keep:=λi h h' st k=>by
  obtain⟨hz,hTI,⟨a,c,hTO⟩,h1,h2⟩:=st
  exact⟨k z (by simp) _ hz,k TI (by simp) _ hTI,⟨a,c,k TO (by simp) _ hTO⟩,h1.at λo e=>k i1 (by simp) o e,h2.at λo e=>k i2 (by simp) o e⟩
 item:=by
  intro X hP hw hK hc i pins s σ H E I hf st hg
  subst hP hw hK
  obtain⟨xs,ys,x,y,q1,q2,hx,hy⟩:=hg
  obtain⟨us,r1,p1⟩:=q1.real I
  obtain⟨ts,r2,p2⟩:=q2.real I
  obtain⟨u,hu,ru⟩:=r1.get hx
  obtain⟨t,ht,rt⟩:=r2.get hy
  obtain⟨hz,hTI,⟨a,c,hTO⟩,h1,h2⟩:=st
  have fz:=hf z (by simp)
  have fTI:=hf TI (by simp)
  have fTO:=hf TO (by simp)
  have f1:=hf i1 (by simp)
  have f2:=hf i2 (by simp)
  refine Qg4 D hz hTI hTO h1 h2 p1 p2 (by simpa using hu) (by simpa using ht) λh' a1 a2 a3 a4 a5 a6 hk=>?_
  have hp:H s.heap.objs.size=none:=I.hok.fresh (Ul _)
  have inC:∀b,b∈[z,TO,i1,i2]->FpOk X pins H b:=λb hb=>by
   have hb':b=z\/b=TO\/b=i1\/b=i2:=by simpa using hb
   rcases hb' with rfl|rfl|rfl|rfl
   ·exact fz
   ·exact fTO
   ·exact f1
   ·exact f2
  have hk':∀b o,b∉[z,TO,i1,i2]->s.heap.get? b=some o->h'.get? b=some o:=λb o hb e=>hk b o (λq=>hb (by simp[q])) (λq=>hb (by simp[q])) (λq=>hb (by simp[q])) (λq=>hb (by simp[q])) e
  have nC:∀b v,H b=some v->b∉[z,TO,i1,i2]:=λb v e hb=>by rw[(inC b hb).1]at e;cases e
  have nP:∀b v,H b=some v->b≠s.heap.objs.size:=λb v e=>Zg e hp
  have I1:Inv X pins σ (upd H s.heap.objs.size (.tup [x,y])) {s with heap:=h'}:=by
   refine I.step (g':=s.gens) (t':=s.toks) (d':=s.drawn) (ch:=[z,TO,i1,i2]) (λb hb=>⟨(inC b hb).2.2.2.1,(inC b hb).2.1,(inC b hb).2.2.2.2.1,(inC b hb).2.2.2.2.2⟩) (λb o _ _ hb e _=>hk' b o hb e) (λb o _ _ hb e _=>⟨o.slots,hk' b o hb e⟩)
    (λb o hb e n=>by rw[QP (UI (Uk e))];exact n) (λb o hb e=>⟨o,hk' b o hb e⟩) (λb v e=>by rw[QP (nP b _ e)];exact e) (λb o v e=>by rw[QP (nP b _ e)];exact e) (λb ps e=>⟨#[],by rw[QP (nP b _ e),e];simp⟩)
    (λm hm=>?_) (λb v e=>?_) I.bare
   ·obtain⟨o,es,ep,ho,rr⟩:=hm
    exact⟨o,es,ep,hk' _ o (λhb=>(inC _ hb).2.1 rfl) ho,rr⟩
   ·by_cases hb:b=s.heap.objs.size
    ·subst hb
     rw[QN]at e;cases e
     exact⟨by rw[Rh];show 2<=16777216;decide,[u,t],.cons ru (.cons rt .nil),⟨_,a5,rfl,_,rfl⟩⟩
    ·rw[QP hb]at e
     refine(I.hok b v e).stay (λc' v' hc' q=>?_) (λc' q=>by rw[QP (nP c' _ q)];exact q) λc' xs' q=>by rw[QP (nP c' _ q)];exact q
     rcases hc' with rfl|hc'
     ·exact hk' _ _ (nC _ _ e) q
     ·exact hk' _ _ (nC _ _ hc') q
  refine⟨_,rfl,wpAny_letOwnedTupleGo_zip a1 λh'' hz'' hs''=>?_⟩
  have hpz:s.heap.objs.size≠z:=Rw (Uk hz)
  have I2:Inv X pins σ (upd H s.heap.objs.size (.tup [x,y])) {s with heap:=h''}:=Inv.turned (s:={s with heap:=h'}) (t':=s.toks) I1 (λb o hb e=>hs''.extBut b o hb e) (by rw[QP (Ne.symm hpz)];exact fz.1) fz.2.1 fz.2.2.2.1 fz.2.2.2.2.1 fz.2.2.2.2.2
  refine⟨.ref s.heap.objs.size,_,I2,rfl,⟨_,x,y,hp,rfl,rfl,λxs' q=>by rw[q.inj I q1];exact hx,λys' q=>by rw[q.inj I q2];exact hy⟩,
   ⟨hz'',hs''.extBut _ _ D.TIz (hk _ _ D.TIz D.TITO D.TIi1 D.TIi2 hTI),⟨_,_,hs''.extBut _ _ D.TOz a2⟩,a3.at λo e=>hs''.extBut _ o D.i1z e,a4.at λo e=>hs''.extBut _ o D.i2z e⟩,λb hb=>?_⟩
  have lt:b<s.heap.objs.size:=by
   have hb':b=z\/b=TI\/b=TO\/b=i1\/b=i2:=by simpa using hb
   rcases hb' with rfl|rfl|rfl|rfl|rfl
   ·exact Uk hz
   ·exact Uk hTI
   ·exact Uk hTO
   ·exact h1.lt
   ·exact h2.lt
  rw[QP (UI lt)]
  exact(hf b hb).1
 done:=by
  intro X hP hw hK hc i pins s σ H E I hf st hg
  subst hP hw hK
  obtain⟨xs,ys,q1,q2,hl⟩:=hg
  obtain⟨us,r1,p1⟩:=q1.real I
  obtain⟨ts,r2,p2⟩:=q2.real I
  have l1:=r1.length
  have l2:=r2.length
  obtain⟨hz,hTI,⟨a,c,hTO⟩,h1,h2⟩:=st
  have inC:∀b,b∈[z,TO,i1,i2]->FpOk X pins H b:=λb hb=>hf b (by
   have hb':b=z\/b=TO\/b=i1\/b=i2:=by simpa using hb
   rcases hb' with rfl|rfl|rfl|rfl <;> simp)
  refine Qd0 (I.ok.hd hc) D hz hTI hTO h1 h2 p1 p2 (by
   rcases hl with z|z
   ·exact .inl (by simp;omega)
   ·exact .inr (by simp;omega)) λh' hk=>⟨rfl,?_⟩
  have hk':∀b o,b∉[z,TO,i1,i2]->s.heap.get? b=some o->h'.get? b=some o:=λb o hb e=>hk b o (λq=>hb (by simp[q])) (λq=>hb (by simp[q])) (λq=>hb (by simp[q])) (λq=>hb (by simp[q])) e
  have nC:∀b v,H b=some v->b∉[z,TO,i1,i2]:=λb v e hb=>by rw[(inC b hb).1]at e;cases e
  refine I.step (g':=s.gens) (t':=s.toks) (d':=s.drawn) (ch:=[z,TO,i1,i2]) (λb hb=>⟨(inC b hb).2.2.2.1,(inC b hb).2.1,(inC b hb).2.2.2.2.1,(inC b hb).2.2.2.2.2⟩) (λb o _ _ hb e _=>hk' b o hb e) (λb o _ _ hb e _=>⟨o.slots,hk' b o hb e⟩)
   (λb o hb e n=>n) (λb o hb e=>⟨o,hk' b o hb e⟩) (λb v e=>e) (λb o v e=>e) (λb ps e=>⟨#[],by rw[e];simp⟩) (λm hm=>?_) (λb v e=>?_) I.bare
  ·obtain⟨o,es,ep,ho,rr⟩:=hm
   exact⟨o,es,ep,hk' _ o (λhb=>(inC _ hb).2.1 rfl) ho,rr⟩
  ·refine(I.hok b v e).stay (λc' v' hc' q=>?_) (λc' q=>q) λc' xs' q=>q
   rcases hc' with rfl|hc'
   ·exact hk' _ _ (nC _ _ e) q
   ·exact hk' _ _ (nC _ _ hc') q
 self:=λ_ _ _ _ _ st h=>wpAny_pyIter_zip st.1 h
section
variable{X:Cx}{ca:Nat->Addr}{e1 e2:Expr}{m1 m2:ME}{p pos tp:Pos}{elts:List Expr}{kk:Nat}
theorem Qm0{ta:TA}(hg:Gl X "zip")(hm:X.mg "zip" = none)(ha:PA X [e1,e2] ta)(hs:starEach [e1,e2] X.env=[(false,eval e1 X.env),(false,eval e2 X.env)])(hs2:starEach [e2] X.env=[(false,eval e2 X.env)]):
  PI X (.Tuple elts kk tp) (.Call (.Name "zip" p) [e1,e2] [] pos) (λσ H R=>ta σ H λvs H1=>∃b1 b2 a1 a2 xs ys,vs=[.ref a1,.ref a2]/\Sq b1 X.K H1 a1 xs/\Sq b2 X.K H1 a2 ys/\R (Itz X.K b1 b2 a1 a2) H1):=by
 intro pins s σ H R I h
 refine Call_ (QeD I hg hm boot_zip (TC (thn (ha pos pins s σ H _ I h) λus s1 ⟨vs,H1,I1,r1,q1⟩=>?_) (by rw[hs,hs2]) (by rw[hs2];rfl)))
 obtain⟨b1,b2,a1,a2,xs,ys,rfl,q1,q2,q⟩:=q1
 cases r1 with
 |cons ru rr =>
  cases rr with
  |cons rt rr =>
   cases rr
   cases ru
   cases rt
   obtain⟨its1,v1,p1⟩:=q1.real I1
   obtain⟨its2,v2,p2⟩:=q2.real I1
   refine QjD p1 p2 λh' hz hTI hTO hi1 hi2 hsz hk=>wpAny_pyIter_zip hz ?_
   have I2:Inv X pins σ H1 {s1 with heap:=h'}:=I1.kept (t':=s1.toks) hk
   refine⟨s1.heap.objs.size+4,_,_,_,H1,rfl,I2,QjE b1 b2 _ (s1.heap.objs.size+2) (s1.heap.objs.size+3) s1.heap.objs.size (s1.heap.objs.size+1) a1 a2 (PyProof.Rows.zipApart_new p1.lt p2.lt),⟨hz,hTI,⟨_,_,hTO⟩,hi1,hi2⟩,λb hb=>?_,q⟩
   have hb':b=s1.heap.objs.size+4\/b=s1.heap.objs.size+2\/b=s1.heap.objs.size+3\/b=s1.heap.objs.size\/b=s1.heap.objs.size+1:=by simpa using hb
   have hle:s1.heap.objs.size<=b:=by rcases hb' with h|h|h|h|h <;> rw[h] <;> first|exact Ul _|exact Nat.le_add_right _ _
   exact I1.fpOk hle (I1.hok.fresh hle)
theorem Qbu{K:Frag}{μ:List Addr}{H:Hp}{g:G}{v:V}{d:D}{b:Bool}{ds:List D}(r:GRep K ca μ H g)(q:Den K μ H v d)(h:QK g d=some (b,ds)):∃a vs,v=.ref a/\Sq b K H a vs/\Dens K μ H vs ds:=by
 cases q with
 |@tup a vs es ht hs=>cases h;exact⟨a,vs,rfl,ht,hs⟩
 |@fl a vs es ht hs=>cases h;exact⟨a,vs,rfl,ht.sq,hs⟩
 |@ref n a hn =>
  unfold QK at h
  dsimp only at h
  cases hg:g[n]? with
  |none=>rw[hg]at h;cases h
  |some o =>
   rw[hg]at h
   obtain⟨a',ha',ob⟩:=r.addr hg
   rw[hn]at ha';cases ha'
   cases o with
   |lst es=>cases h;obtain⟨vs,hH,q⟩:=ob;exact⟨a,vs,rfl,SqL.of hH,q⟩
   |_=>cases h
 |_=>cases h
theorem Qdx{K:Frag}{μ:List Addr}{H:Hp}{g g':G}{μ':List Addr}{H':Hp}{d:D}{v:V}{b b':Bool}{ds ds':List D}(h:QK g d=some (b,ds))(h':QK g' d=some (b',ds')):b=b':=by
 unfold QK at h h'
 cases d with
 |tup es=>cases h;cases h';rfl
 |fl es=>cases h;cases h';rfl
 |ref n =>
  dsimp only at h h'
  have k1:b=true:=by
   cases hg:g[n]? with
   |none=>rw[hg]at h;cases h
   |some o=>rw[hg]at h;cases o <;> cases h <;> rfl
  have k2:b'=true:=by
   cases hg:g'[n]? with
   |none=>rw[hg]at h';cases h'
   |some o=>rw[hg]at h';cases o <;> cases h' <;> rfl
  rw[k1,k2]
 |_=>cases h
theorem Qlp{K:Frag}{μ:List Addr}{H:Hp}{g:G}{v1 v2:V}{d1 d2:D}{b1 b2:Bool}{xs ys:List D}{t:Nat}(q1:Den K μ H v1 d1)(q2:Den K μ H v2 d2)(h1:QK g d1=some (b1,xs))(h2:QK g d2=some (b2,ys)){a1 a2:Addr}(e1:v1=.ref a1)(e2:v2=.ref a2):
  Sim K ca μ H ⟨λg i=>(match QK g d1,QK g d2 with
  |some (_,xs),some (_,ys)=>(match xs[i]?,ys[i]? with
   |some x,some y=>some (some (.tup [x,y]))
   |_,_=>some none)
  |_,_=>none),t⟩ (Itz K b1 b2 a1 a2):=by
 intro i H1 μ1 g1 ex r
 dsimp only
 cases k1:QK g1 d1 with
 |none=>trivial
 |some p1 =>
  obtain⟨c1,xs1⟩:=p1
  cases k2:QK g1 d2 with
  |none=>trivial
  |some p2 =>
   obtain⟨c2,ys1⟩:=p2
   have f1:=Qdx (K:=K) (μ:=μ) (H:=H) (μ':=μ) (H':=H) (v:=v1) h1 k1
   have f2:=Qdx (K:=K) (μ:=μ) (H:=H) (μ':=μ) (H':=H) (v:=v1) h2 k2
   subst f1 f2
   obtain⟨z1,vs,w1,s1,d1s⟩:=Qbu r (q1.mono ex) k1
   obtain⟨z2,ws,w2,s2,d2s⟩:=Qbu r (q2.mono ex) k2
   rw[e1]at w1;cases w1
   rw[e2]at w2;cases w2
   dsimp only
   cases hx:xs1[i]? with
   |none =>
    refine⟨vs,ws,s1,s2,.inl ?_⟩
    rw[d1s.length];exact Ta.mp hx
   |some x =>
    cases hy:ys1[i]? with
    |none =>
     refine⟨vs,ws,s1,s2,.inr ?_⟩
     rw[d2s.length];exact Ta.mp hy
    |some y =>
     obtain⟨vx,hvx,qx⟩:=d1s.get hx
     obtain⟨vy,hvy,qy⟩:=d2s.get hy
     refine⟨⟨vs,ws,vx,vy,s1,s2,hvx,hvy⟩,λv H' yl=>?_⟩
     obtain⟨pp,x',y',hp,rfl,rfl,u1,u2⟩:=yl
     have:=u1 vs s1
     rw[hvx]at this;cases this
     have:=u2 ws s2
     rw[hvy]at this;cases this
     exact⟨Zy hp,r.new hp,.tup (.of QN) (.cons (qx.mono (Zy hp)) (.cons (qy.mono (Zy hp)) .nil))⟩
theorem Qn2(hm:X.mg "zip" = none)(h1:PE3 ca X e1 m1)(h2:PE3 ca X e2 m2)(hg:Gl X "zip":=by rfl)(hs:starEach [e1,e2] X.env=[(false,eval e1 X.env),(false,eval e2 X.env)]:=by rfl)(hs2:starEach [e2] X.env=[(false,eval e2 X.env)]:=by rfl)(hs3:starEach [e1,e2] X.env=(false,eval e1 X.env)::starEach [e2] X.env:=by rfl):PI3 ca X (.Tuple elts kk tp) (.Call (.Name "zip" p) [e1,e2] [] pos) (QeR m1 m2) :=
 λpn Φ=>Qfx (Qm0 (X:=xat X ca pn Φ) hg hm (Qa0 h1 (Qa0 h2 Qf hs2) hs3 pn Φ) hs hs2) λσ H R hQ=>by
  obtain⟨σ3,g,μ,Rp,q⟩:=hQ
  refine⟨σ3,g,μ,Rp,?_⟩
  unfold QeR at q
  unfold Qa mNil
  cases hm1:m1 σ3 g with
  |raise _ _=>rw[hm1]at q;exact q
  |stuck=>rw[hm1]at q;exact q.elim
  |ok d1 g1 =>
   rw[hm1,Res.bind_ok]at q
   rw[Res.bind_ok]
   cases hm2:m2 σ3 g1 with
   |raise _ _=>rw[hm2]at q;exact q
   |stuck=>rw[hm2]at q;exact q.elim
   |ok d2 g2 =>
    rw[hm2,Res.bind_ok]at q
    rw[Res.bind_ok,Res.bind_ok,Res.bind_ok]
    intro vs H1 μ1 ex r1 q1
    cases q1 with
    |@cons v1 _ _ _ n1 q1 =>
     cases q1 with
     |@cons v2 _ _ _ n2 q1 =>
      cases q1
      unfold Qgd at q
      cases k1:QK g2 d1 with
      |none=>rw[k1]at q;exact q.elim
      |some p1 =>
       obtain⟨b1,xs⟩:=p1
       cases k2:QK g2 d2 with
       |none=>rw[k1,k2]at q;exact q.elim
       |some p2 =>
        obtain⟨b2,ys⟩:=p2
        rw[k1,k2]at q
        obtain⟨a1,us,rfl,s1,_⟩:=Qbu r1 n1 k1
        obtain⟨a2,ts,rfl,s2,_⟩:=Qbu r1 n2 k2
        exact⟨b1,b2,a1,a2,us,ts,rfl,s1,s2,q _ H1 μ1 ex r1 (Qlp n1 n2 k1 k2 rfl rfl)⟩
end
theorem Jw(K:Frag)(t c:Ty):kitOne K (.type t.name) (.type c.name)=some (tyLe t c):=by
 cases t <;> cases c <;> kernel_rfl
section
variable{X:Cx}{ca:Nat->Addr}{a b c e:Expr}{ma mb mc me:ME}{pos p p2:Pos}{k:Nat}
theorem Qie(c:Ty):CallR X (.builtin "isinstance") (λxs H Q=>∃x g μ d t,xs=[x,.ty c.name]/\GRep X.K ca μ H g/\Den X.K μ H x d/\tyOf g d=some t/\Q (.bl (tyLe t c)) H):=by
 intro pins s σ H xs us Q I rv h
 obtain⟨x,g,μ,d,t,rfl,r,q,ht,qq⟩:=h
 obtain⟨u,u2,rfl,ru,ru2⟩:=rv.two
 cases ru2
 have fin:∀tk,EP X pins σ Q (.bool (tyLe t c)) {s with toks:=tk}:=λtk=>⟨.bl _,H,I.tok tk,rfl,qq⟩
 cases q with
 |non=>cases ht;exact Y1 I ru .non (Jw X.K .non c) fin
 |bl y=>cases ht;exact Y1 I ru (.bl y) (Jw X.K .bool c) fin
 |int y=>cases ht;exact Y1 I ru (.int y) (Jw X.K .int c) fin
 |str y=>cases ht;exact Y1 I ru (.str y) (Jw X.K .str c) fin
 |@tup a vs ds hq hs =>
  cases ht
  cases ru
  obtain⟨its,_,⟨o,h1,h2,_⟩,_⟩:=I.tuple hq
  exact UN RD I.kIn ⟨o,h1,h2⟩ (Jw X.K .tuple c) (λz=>nomatch z) fin
 |@fl a vs ds hq hs =>
  cases ht
  cases ru
  obtain⟨its,_,p,_⟩:=I.list hq.sq
  obtain⟨o,h1,h2,_⟩:=p.isList
  exact UN TF I.kIn ⟨o,h1,h2⟩ (Jw X.K .list c) (λz=>nomatch z) fin
 |@ref n a hn =>
  unfold tyOf at ht
  dsimp only at ht
  cases hg:g[n]? with
  |none=>rw[hg]at ht;cases ht
  |some o =>
   rw[hg]at ht
   obtain⟨a',ha',ob⟩:=r.addr hg
   rw[hn]at ha';cases ha'
   cases o with
   |lst ds=>cases ht;obtain⟨vs,hH,_⟩:=ob;exact Y1 I ru (.lst hH) (Jw X.K .list c) fin
   |dct ks=>cases ht;obtain⟨kv,hH,_⟩:=ob;exact Y1 I ru (.dK hH) (Jw X.K .dict c) fin
   |ins _ _=>cases ht
   |exc _=>cases ht
theorem Yt{x:Str}(c:Ty)(hi:X.mg "isinstance" = none)(hm:X.mg x=none)(hv:bootBuiltins x=some (.type c.name))(he:PE3 ca X e me)(hgi:Gl X "isinstance":=by rfl)(hg:Gl X x:=by rfl)(hnm:x ≠ "__name__":=by decide)(hdb:(x == ("__debug__" : Str))=false:=by decide)(hs:starEach [e,.Name x p2] X.env=(false,eval e X.env)::starEach [.Name x p2] X.env:=by rfl)(hs2:starEach [.Name x p2] X.env=(false,eval (.Name x p2) X.env)::starEach [] X.env:=by rfl)(hpl:(backTo pos (starEach [.Name x p2] X.env)).any (·.1)=false:=by rfl):
  PE3 ca X (.Call (.Name "isinstance" p) [e,.Name x p2] [] pos) (mOp1 (ZS c) me) :=
 λpn Φ=>ZP (QaM (X:=xat X ca pn Φ) (Qie (ca:=ca) c) hgi hi Ro (Y2 (X:=xat X ca pn Φ) (he pn Φ) (Y2 (X:=xat X ca pn Φ) (QdP (X:=xat X ca pn Φ) (v:=.ty c.name) hg hm hv rfl hnm hdb) Qdp hs2) hs) (by decide) (by decide) hs hpl) λσ H Q ⟨σ3,g,μ,R,q⟩ =>
  ZO (Qba R q) λy H1 hQ=>by
   obtain⟨d,g1,μ1,e1,R1,q1,p1⟩:=hQ
   unfold ZS at p1
   cases ht:tyOf g1 d with
   |none=>rw[ht]at p1;exact p1.elim
   |some t=>rw[ht]at p1;exact⟨y,g1,μ1,d,t,rfl,R1.g,q1,ht,p1 _ H1 μ1 .refl R1.g (.bl _)⟩
theorem Qgs{K:Frag}{μ:List Addr}{H:Hp}:∀{vs:List V}{ds:List D}{us:List Value}{b:Bool},Dens K μ H vs ds->Vals vs us->allB ds=some b->∃bs:List Bool,us=bs.map Value.bool/\bs.all id=b
 |_,_,_,b,.nil,.nil,h=>by cases h;exact⟨[],rfl,rfl⟩
 |_,_,_,b,@Dens.cons _ _ _ _ _ _ ds q qs,.cons r rs,h=>by
  cases q with
  |bl c =>
   unfold allB at h
   cases hd:allB ds with
   |none=>rw[hd]at h;cases h
   |some d =>
    rw[hd]at h
    cases h
    obtain⟨bs,h1,h2⟩:=Qgs qs rs hd
    cases r
    exact⟨c::bs,by rw[h1];rfl,by simp[h2]⟩
  |_=>cases h
theorem Qif(bs:List Bool):((List.range bs.length).all λi=>(bs[i]?).getD true)=bs.all id:=by
 rw[Bool.eq_iff_iff,Us,Us]
 constructor
 ·intro h b hb
  obtain⟨i,hi,rfl⟩:=List.getElem_of_mem hb
  have:=h i (RG.mpr hi)
  simpa[hi]using this
 ·intro h i hi
  have hi':=RG.mp hi
  have:=h bs[i] (UR hi')
  simpa[hi']using this
theorem Qig(hc:X.calm=true):CallR X (.builtin "all") (λxs H Q=>∃p vs ds μ b,xs=[.ref p]/\SqL X.K H p vs/\Dens X.K μ H vs ds/\allB ds=some b/\Q (.bl b) H):=by
 intro pins s σ H xs us Q I rv h
 obtain⟨l,vs,ds,μ,b,rfl,hq,q,hb,qq⟩:=h
 obtain⟨u,rfl,ru⟩:=rv.one
 cases ru
 obtain⟨its,rs,pl,_⟩:=I.list hq
 obtain⟨bs,rfl,e2⟩:=Qgs q rs hb
 have hl:=pl.isList
 have hlt:l<s.heap.objs.size:=by obtain⟨_,e,_⟩:=hl;exact Uk e
 refine call_all_walk (RM hl ⟨s.heap.objs.size,[s.heap.objs.size,l],[s.heap.objs.size],_,_,_,λi=>(bs[i]?).getD true,rfl,Walks.list (A:=X.A.in1) (show X.A.in1.handled=none from I.ok.hd hc) _ l (UI hlt) _,⟨⟨_,Ur _ rfl,rfl,rfl⟩,hl.push _⟩,λi v s' Q' E' hP hQ=>?_,λh' tk hk=>?_⟩)
 ·have hP:(bs.map Value.bool).toArray[i]?=some v:=hP
  rw[List.getElem?_toArray,UB]at hP
  cases hi:bs[i]? with
  |none=>rw[hi]at hP;cases hP
  |some c =>
   rw[hi]at hP
   cases hP
   simp only[hi,RV]at hQ
   exact Ts hQ
 ·have kept:∀c o,s.heap.get? c=some o->h'.get? c=some o:=λc o e=>hk c o (λhm=>by rw[Ug.mp hm]at e;exact Tl _ (Uk e)) (Ub _ e)
  have ea:((List.range (bs.map Value.bool).toArray.size).all λi=>(bs[i]?).getD true)=b:=by
   rw[Ue,Ud,Qif,e2]
  rw[ea]
  exact⟨.bl b,H,I.kept kept,rfl,qq⟩
theorem Qih(hc:X.calm=true)(hm:X.mg "all" = none)(he:PE3 ca X e me)(hg:Gl X "all":=by rfl)(hs:starEach [e] X.env=[(false,eval e X.env)]:=by rfl)(hpl:(backTo pos (starEach [] X.env)).any (·.1)=false:=by rfl):
  PE3 ca X (.Call (.Name "all" p) [e] [] pos) (mOp1 pAll me) :=
 Qlm (r:=λxs H Q=>∃p vs ds μ b,xs=[V.ref p]/\SqL X.K H p vs/\Dens X.K μ H vs ds/\allB ds=some b/\Q (.bl b) H) (λpn Φ=>Qig (X:=xat X ca pn Φ) hc) hm boot_all (λΦ σ H μ g y d Q r q pp=>by
  unfold pAll at pp
  cases q with
  |@ref n t hn =>
   dsimp only at pp
   cases hgn:g[n]? with
   |none=>rw[hgn]at pp;exact pp.elim
   |some ob =>
    rw[hgn]at pp
    obtain⟨t',ht',orp⟩:=r.addr hgn
    rw[hn]at ht';cases ht'
    cases ob with
    |lst ds =>
     obtain⟨vs,hH,q⟩:=orp
     dsimp only at pp
     cases hb:allB ds with
     |none=>rw[hb]at pp;exact pp.elim
     |some b=>rw[hb]at pp;exact⟨t,vs,ds,μ,b,rfl,.of hH,q,hb,pp _ H μ .refl r (.bl _)⟩
    |_=>exact pp.elim
  |_=>exact pp.elim) he hg (by decide) (by decide) hs hpl
theorem QjF{K:Frag}{Φ:XS}{r r':R2}{f f':D->D->G->Res D}(h1:Qad K ca r f)(h2:Qad K ca r' f')(σ:L2.St)(H:Hp)(Q:VK)(h:up K ca Φ (Qdr f f' ma mb mc) σ H Q):Qkm r r' (up K ca Φ ma) (up K ca Φ mb) (up K ca Φ mc) σ H Q:=by
 obtain⟨σ3,g,μ,R,p⟩:=h
 refine ZO (Qba R p) λx H1 ⟨dx,g1,μ1,e1,R1,q1,p1⟩=>?_
 refine ZO (Qba R1 p1) λy H2 ⟨dy,g2,μ2,e2,R2,q2,p2⟩=>?_
 refine h1 Φ σ H2 μ2 g2 x y dx dy _ R2.g (q1.mono e2) q2 ?_
 cases hf:f dx dy g2 with
 |raise _ _=>rw[hf]at p2;exact p2
 |stuck=>rw[hf]at p2;exact p2.elim
 |ok z g3 =>
  rw[hf,Res.bind_ok]at p2
  intro v H3 μ3 e3 r3 q3
  cases q3 with
  |bl t =>
   refine⟨t,rfl,?_⟩
   cases t with
   |true =>
    rw[Uh rfl]
    dsimp only at p2
    refine ZO (Qba (R2.go e3 r3) (p2.go e3)) λw' H4 ⟨dw,g4,μ4,e4,R4,q4,p4⟩=>?_
    exact h2 Φ σ H4 μ4 g4 y w' dy dw Q R4.g ((q2.mono e3).mono e4) q4 p4
   |false =>
    rw[Um Uc]
    exact p2 _ H3 μ3 e3 r3 (.bl _)
  |_=>exact p2.elim
theorem Qm1(ha:PE3 ca X a ma)(hb:PE3 ca X b mb)(hc:PE3 ca X c mc)(hm:lastMarks [.LtE,.Lt] [b,c]=false:=by with_unfolding_all rfl):PE3 ca X (.Compare a [.LtE,.Lt] [b,c] pos) (Qdr pLe pLt ma mb mc) :=
 λpn Φ=>ZP (Qjq (X:=xat X ca pn Φ) Qmu QkZ (ha pn Φ) (hb pn Φ) (hc pn Φ) hm) (QjF (YR _) (YR _))
theorem Qkw{K:Frag}{μ:List Addr}{H:Hp}{v:V}{d:D}(q:Den K μ H v d)(h:QbO d=true):Qc9 v=true:=by cases q <;> first|rfl|cases h
theorem Qii{K:Frag}{μ:List Addr}{H:Hp}:∀{vs:List V}{ds:List D},Dens K μ H vs ds->ds.all QbO=true->vs.all Qc9=true
 |_,_,.nil,_=>rfl
 |_,_,.cons q qs,h=>by
  rw[TD,Uu]at h ⊢
  exact⟨Qkw q h.1,Qii qs h.2⟩
theorem Qn3{K:Frag}{μ:List Addr}{H:Hp}{v w:V}{d e:D}(q:Den K μ H v d)(q':Den K μ H w e)(h:QbO d=true)(h':QbO e=true):eqV v w=eqF d e:=by
 cases q <;> cases q' <;> first|rfl|cases h|cases h'
theorem Qm2{K:Frag}{μ:List Addr}{H:Hp}{w:V}{e:D}(q':Den K μ H w e)(h':QbO e=true):∀{vs:List V}{ds:List D},Dens K μ H vs ds->ds.all QbO=true->(vs.any λy=>eqV y w)=ds.any λd=>eqF d e
 |_,_,.nil,_=>rfl
 |_,_,.cons q qs,h=>by
  rw[TD,Uu]at h
  rw[Tv,Tv,Qn3 q q' h.1 h',Qm2 q' h' qs h.2]
theorem Qfz{K:Frag}(neg:Bool):Qad K ca (rIn K neg) (pIn neg):=by
 intro Φ σ H μ g x y dx dy Q r qx qy p
 unfold pIn at p
 cases hs:QK g dy with
 |none=>rw[hs]at p;exact p.elim
 |some pr =>
  obtain⟨bb,ds⟩:=pr
  rw[hs]at p
  dsimp only at p
  by_cases z:QbO dx=true/\ds.all QbO=true
  ·rw[Uh z]at p
   obtain⟨a,vs,rfl,sq,qs⟩:=Qbu r qy hs
   refine⟨a,vs,rfl,?_,Qkw qx z.1,Qii qs z.2,p _ H μ .refl r ?_⟩
   ·cases bb
    ·exact .inr sq
    ·exact .inl sq
   ·unfold inV
    rw[Qm2 qx z.1 qs z.2]
    cases neg <;> exact .bl _
  ·rw[Um z]at p;exact p.elim
theorem r_in(ha:PE3 ca X a ma)(hb:PE3 ca X b mb)(hm:behindInMarks .In b=false:=by rfl):PE3 ca X (.Compare a [.In] [b] pos) (mOp2 (pIn false) ma mb):=QhX (λ_ _=>QeL) (Qfz false) ha hb hm
theorem Qlq(ha:PE3 ca X a ma)(hb:PE3 ca X b mb)(hm:behindInMarks .In b=false:=by rfl):PT3 ca X (.Compare a [.In] [b] pos) (Qj (mOp2 (pIn false) ma mb)):=Js (λ_ _=>QeL) (Qfz false) ha hb hm
theorem Qd2(ha:PE3 ca X a ma)(hb:PE3 ca X b mb)(hm:behindInMarks .NotIn b=false:=by rfl):PT3 ca X (.Compare a [.NotIn] [b] pos) (Qj (mOp2 (pIn true) ma mb)):=Js (λ_ _=>QeM) (Qfz true) ha hb hm
end
section
variable{prog:Program}{w:World}{A:Around}{E:Value->Shared->Prop}{s:Shared}
theorem QbR{t sl:Addr}{items:Array Value}{vl vu:Value}{lo hi:Option Int}{Q:Value->Shared->Prop}(ht:IsTup s.heap t items)(hs:s.heap.IsSliceOf sl vl vu .none)(pl:IsPart vl lo)(pu:IsPart vu hi)(h1:HT.sIx items.size 0 lo=0)(h2:HT.sIx items.size items.size hi=items.size)(h:Q (.ref t) s):wpAny (model prog w) A (getItem (.ref t) (.ref sl)) Q E s:=by
 obtain⟨os,hos,hcs,hds⟩:=id hs
 have hTs:s.TypeIs (.ref sl) "slice":=⟨os,hos,hcs⟩
 unfold getItem
 try with_reducible refine Tu ?_
 first|refine Ua (Uj ?_)|skip
 refine Ua (wpAny_sequenceKey ht.typeIs (by decide) ?_)
 refine Ua (U2 (name:=Str.ofString "__getitem__") ht.typeIs UP (Tx UP ht.typeIs entry_tuple_getitem ?_ (args_tuple_getitem _ _)))
 show wpAny _ _ (Builtin.Tuple.tupleItemsOf (.ref t) >>= _) _ _ s
 refine Ua (tupleItemsOf_ ht (Ua (wpAny_typeOf hTs ?_)))
 rw[Uh (by decide)]
 refine Ua (HT.sliceApplied_gen hs pl pu ?_)
 rw[h1,h2]
 show wpAny _ _ (if (((0:Nat):Int) == 0 && (1:Int) == 1 && (items.size-0) == items.size)=true then _ else _) _ _ s
 rw[Uh (by simp)]
 unfold Builtin.Tuple.tupleIsExact
 refine Ua (Ua (wpAny_typeOf ht.typeIs (Uj ?_)))
 rw[Uh (by decide)]
 exact Ua (WU (Uj ⟨_,rfl,Uj h⟩))
end
theorem QjG(n d:Nat)(o:Option Int):HT.sIx n d o=sIxD n d o:=by cases o <;> rfl
theorem Dens.cut{K:Frag}{μ:List Addr}{H:Hp}{vs:List V}{ds:List D}(lo hi:Option Int)(h:Dens K μ H vs ds):Dens K μ H (cutV vs lo hi) (cutD ds lo hi):=by
 unfold cutV cutD
 rw[QjG,QjG,h.length]
 exact(h.drop _).take _
section
variable{X:Cx}{ca:Nat->Addr}{e:Expr}{me:ME}{lo hi:Option Expr}{ml mh:MO}{pos p2:Pos}
theorem Qij:SlR X (λx lo hi H Q=>∃a xs,x=.ref a/\SqT X.K H a xs/\(HT.sIx xs.length 0 lo=0/\HT.sIx xs.length xs.length hi=xs.length)/\Q (.ref a) H):=by
 intro pins s σ H x v vl vu lo hi sl Q I rx hs pl pu h
 obtain⟨a,xs,rfl,hx,hw,q⟩:=h
 cases rx
 obtain⟨its,r,ht,hz⟩:=I.tuple hx
 have hlen:its.toArray.size=xs.length:=by rw[Ue];exact r.length.symm
 refine⟨"tuple",_,UP.lookup,ht.typeIs,?_⟩
 exact QbR ht hs pl pu (by rw[hlen];exact hw.1) (by rw[hlen];exact hw.2) ⟨.ref a,H,I,rfl,q⟩
noncomputable def upO(K:Frag)(ca:Nat->Addr)(Φ:XS)(m:MO):TO:=λσ H Q=>∃σ3 g μ,Rep K ca μ σ3 g σ H/\match m σ3 g with
 |.ok o g'=>∀H' μ',Ext K μ H μ' H'->GRep K ca μ' H' g'->Q o H'
 |.raise x g'=>RaP K ca Φ σ H μ x g'
 |.stuck=>False
def PO3(ca:Nat->Addr)(X:Cx)(e:Option Expr)(m:MO):Prop:=∀pn Φ,PO (xat X ca pn Φ) e (upO X.K ca Φ m)
theorem QD:PO3 ca X none Qy:=λpn Φ pins s σ H Q I ⟨_,_,μ,R,p⟩=>Qk7 (X:=xat X ca pn Φ) pins s σ H Q I (p H μ .refl R.g)
theorem QV(he:PE3 ca X e me):PO3 ca X (some e) (Q0 me):=λpn Φ pins s σ H Q I hQ=>by
 obtain⟨σ3,g,μ,R,p⟩:=hQ
 refine Qk8 (X:=xat X ca pn Φ) (he pn Φ) pins s σ H Q I ⟨σ3,g,μ,R,?_⟩
 unfold Q0 at p
 cases hm:me σ3 g with
 |raise _ _=>rw[hm]at p;exact p
 |stuck=>rw[hm]at p;exact p
 |ok d g1 =>
  rw[hm,Res.bind_ok]at p
  intro v H1 μ1 e1 r1 q1
  cases q1 with
  |int i=>exact⟨i,rfl,p H1 μ1 e1 r1⟩
  |_=>exact p.elim
theorem Qlr{α:Type}(xs:List α)(lo hi:Option Int)(h1:sIxD xs.length 0 lo=0)(h2:sIxD xs.length xs.length hi=xs.length):cutD xs lo hi=xs:=by
 unfold cutD
 rw[h1,h2];simp
theorem QI(he:PE3 ca X e me)(hl:PO3 ca X lo ml)(hh:PO3 ca X hi mh):PE3 ca X (.Subscript e (.Slice lo hi none p2) pos) (QH me ml mh):=λpn Φ =>
 ZP (Qjt (X:=xat X ca pn Φ) ((sl_tup.or Qij).or Qla) (he pn Φ) (hl pn Φ) (hh pn Φ)) λσ H Q ⟨σ3,g,μ,R,p⟩=>ZO (Qba R p) λx H1 hQ=>by
  obtain⟨d,g1,μ1,e1,R1,q1,p1⟩:=hQ
  refine⟨σ3,g1,μ1,R1,?_⟩
  cases hm:ml σ3 g1 with
  |raise _ _=>rw[hm]at p1;exact p1
  |stuck=>rw[hm]at p1;exact p1
  |ok l g2 =>
   rw[hm,Res.bind_ok]at p1
   intro H2 μ2 e2 r2
   refine⟨σ3,g2,μ2,R1.go e2 r2,?_⟩
   cases hm2:mh σ3 g2 with
   |raise _ _=>rw[hm2]at p1;exact RaP.go e2 p1
   |stuck=>rw[hm2]at p1;exact p1
   |ok u g3 =>
    rw[hm2,Res.bind_ok]at p1
    intro H3 μ3 e3 r3
    have p3:=Post.go (e2.trans e3) p1
    have q3:=(q1.mono e2).mono e3
    unfold Qbo at p3
    cases q3 with
    |@tup a vs ds ht hs =>
     by_cases hw:HT.sIx vs.length 0 l=0/\HT.sIx vs.length vs.length u=vs.length
     ·refine .inl (.inr ⟨a,vs,rfl,ht,hw,p3 _ H3 μ3 .refl r3 ?_⟩)
      rw[Qlr ds l u (by rw[<-QjG,<-hs.length];exact hw.1) (by rw[<-QjG,<-hs.length];exact hw.2)]
      exact .tup ht hs
     ·exact .inl (.inl ⟨a,vs,rfl,ht,hw,λt ht'=>p3 _ _ μ3 (Zy ht') (r3.new ht') (.tup (.of QN) ((hs.cut l u).mono (Zy ht')))⟩)
    |@fl a vs ds ht hs =>
     refine .inr ⟨a,vs,rfl,ht.sq,λt ht'=>p3 _ _ (μ3++[t]) (Q4 ht') (r3.push ht' ⟨_,QN,(hs.cut l u).mono (Q4 ht')⟩) (.ref ?_)⟩
     rw[<-r3.len];simp
    |@ref n a hn =>
     dsimp only at p3
     cases hg:g3[n]? with
     |none=>rw[hg]at p3;exact p3.elim
     |some o =>
      rw[hg]at p3
      obtain⟨a',ha',ob⟩:=r3.addr hg
      rw[hn]at ha';cases ha'
      cases o with
      |lst ds =>
       obtain⟨vs,hH,hs⟩:=ob
       refine .inr ⟨a,vs,rfl,.of hH,λt ht'=>p3 _ _ (μ3++[t]) (Q4 ht') (r3.push ht' ⟨_,QN,(hs.cut l u).mono (Q4 ht')⟩) (.ref ?_)⟩
       rw[<-r3.len];simp
      |_=>exact p3.elim
    |_=>exact p3.elim
end
abbrev bmV:List Value:=[.type "ValueError",.type "Exception",.type "BaseException",.type "object"]
structure ExK(K:Frag)(C:Addr):Prop where
 ga:findIn K (.ref C) "__getattribute__" = some (some (.builtin "BaseException.__getattribute__"))
 gx:findIn K (.ref C) "__getattr__" = some none
 cl:findIn K (.ref C) "__class__" = some (some (.builtin "object.__class__"))
 gt:specialIn K (.builtin "object.__class__") "__get__" = some (some (.builtin "getset_descriptor.__get__"))
 tk:takesIn K (.builtin "object.__class__")=some true
 mr:mroIn K C (.type "object")=some true
 sb:subIn K (.ref C) (.type "BaseException")=some true
 ci:(clsIn K C).isSome=true
section
variable{prog:Program}{w:World}{A:Around}{E:Value->Shared->Prop}{s:Shared}{K:Frag}{C e:Addr}{oe:Obj}{vs:Array Value}
theorem Qgt{h:Heap}(hx:h.get? e=some oe)(hc:oe.cls=.ref C)(hd:oe.data=.fields vs)(hn:oe.dict=none):PySem.W.InstAt h e oe C none :=
 ⟨hx,hc,by obtain⟨c,d,dt,sl⟩:=oe;obtain rfl:dt=_:=hd;rfl,by rw[hn];trivial⟩
theorem Qls(F:ExK K C):findObj K C none "__class__" = some (.bind (.builtin "getset_descriptor.__get__") (.builtin "object.__class__")):=by
 obtain⟨cd,hc⟩:=Td.mp F.ci
 unfold findObj
 rw[hc,Option.bind_some,F.cl,Option.bind_some]
 simp[F.gt,F.tk]
theorem QjH{nm:Value}{Q:Unit->Shared->Prop}(X:K.In s.heap)(F:ExK K C)(I:PySem.W.InstAt s.heap e oe C none)(hq:Q () s):wpAny (model prog w) A (checkBuiltinCall "BaseException.__getattribute__" ⟨[.ref e,nm],[]⟩) Q E s:=by
 obtain⟨h,g,d,t,os⟩:=s
 have hk:builtinKind "BaseException.__getattribute__" = some .slot:=by decide +kernel
 have hsplit:splitId "BaseException.__getattribute__" = some ("BaseException", "__getattribute__"):=by decide +kernel
 have L0:=I.type (M:=model prog w)
 have L1:=Rs (M:=model prog w) X F.sb
 have ha:=PySem.F.args_bexc_ga (.ref e) nm
 simp only[checkBuiltinCall,hk,hsplit]
 unfold isInstance
 refine Ua (Ua (L0.at (L1.at ?_)))
 repeat (first|exact hq|wp_step)
theorem Qik{Q:Option Value->Shared->Prop}(X:K.In s.heap)(F:ExK K C)(I:PySem.W.InstAt s.heap e oe C none)(h:Q (some (.ref C)) {s with toks:=s.toks+1}):wpAny (model prog w) A (getAttr? (.ref e) "__class__") Q E s:=by
 obtain⟨hh,g,d,t,os⟩:=s
 have L0:=I.type (M:=model prog w)
 have L1:=Re (M:=model prog w) X F.ga
 have L2:=Re (M:=model prog w) X F.gx
 have L3:=looks_find (M:=model prog w) X I (Qls F)
 have hb:=PySem.F.attr_ValueError.ga.bind (.ref e)
 unfold getAttr? getAttrBy? getAttrBy
 refine Ua (wpAny_mkText (Ua (RQ (Tu (Ua (L0.at (Ua (L1.at ?_))))))))
 show wpAny _ _ (getAttrByItsOwn _ _ _ _ _ _) _ _ _
 unfold getAttrByItsOwn hookBefore callGetattribute boundAndCalled
 refine Ua (L2.at ?_)
 refine Ua (RQ (Tu ?_))
 show wpAny _ _ (bindSpecial (.builtin "BaseException.__getattribute__") (.ref e) >>= _) _ _ _
 rw[hb]
 refine Ua (Uj ?_)
 refine WT (codeAny_call_builtin PySem.F.attr_ValueError.ga.plain PySem.F.entry_bexc_ga (QjH (s:=⟨hh,g,d,t+1,os⟩) X F I ?_))
 unfold Builtin.«object.__getattribute__»
 refine Ua (Wq (a:=(Value.ref e,[Value.str "__class__" t])) rfl ?_)
 refine Ua (Wq (a:=Str.ofString "__class__") rfl ?_)
 refine Ua (L0.at (Ua (L3.at ?_)))
 show wpAny _ _ (Builtin.ObjectAttr.bindTo (.builtin "getset_descriptor.__get__") (.builtin "object.__class__") (.ref e) (.ref C)) _ _ _
 refine Ua (Tu (WT (class_get (s:=⟨hh,g,d,t+1,os⟩) (od:=none) X I F.mr ?_)))
 refine Uj ?_
 show wpAny (model prog w) A (handedOut (Value.ref C)) _ _ _
 exact Uj (Uj h)
theorem QjI(F:ExK K C):KitX K (.ref e) (.ref C) (λh=>∃o vs,h.get? e=some o/\(o.cls=.ref C/\o.dict=none)/\o.data=.fields vs) where
 ty:=λM h _ ⟨o,vs,h1,h2,h3⟩=>(Qgt h1 h2.1 h3 h2.2).type
 it:=λ_ _ X _=>by
  obtain⟨cd,hc⟩:=Td.mp F.ci
  unfold clsIn at hc
  split at hc
  ·rename_i c' d' cd' sl' ho
   intro A' Q' E' s' k q
   unfold isType loadHead
   exact Ua (Wp (k _ _ (X _ _ ho)) (Uj q))
  ·cases hc
 ne:=λh tp dd its n sl X htp=>by
  obtain⟨cd,hc⟩:=Td.mp F.ci
  refine Bool.eq_false_iff.mpr λq=>?_
  have z:C=tp:=Value.ref.inj (U0.mp q)
  subst z
  unfold clsIn at hc
  split at hc
  ·rename_i c' d' cd' sl' ho
   cases (X _ _ ho).symm.trans htp
  ·cases hc
 ca:=λX ⟨o,vs,h1,h2,h3⟩ k=>Qik X F (Qgt h1 h2.1 h3 h2.2) k
end
structure IsX(K:Frag)(ca:Nat->Addr)(T:Value)(all cs:List Nat):Prop where
 ex:∀c∈all,ExK K (ca c)
 an:∀c∈all,kitOne K (.ref (ca c)) T=some (decide (c∈cs))
 no:kitOne K (.type "NoneType") T=some false
section
variable{X:Cx}{ca:Nat->Addr}{e:Expr}{me:ME}{pos p p2:Pos}{all cs:List Nat}
theorem Qdy{u:V}{T:Value}(hu:∀v,L2.RelV u v->v=T)(h:IsX X.K ca T all cs):CallR X (.builtin "isinstance") (λxs H Q=>∃x g μ d b,xs=[x,u]/\GRep X.K ca μ H g/\Den X.K μ H x d/\Za all cs d g=.ok (.bl b) g/\Q (.bl b) H):=by
 intro pins s σ H xs us Q I rv z
 obtain⟨x,g,μ,d,b,rfl,r,q,ht,qq⟩:=z
 obtain⟨v,v2,rfl,rx,r2⟩:=rv.two
 have e2:v2=T:=hu v2 r2
 subst e2
 have fin:∀tk,EP X pins σ Q (.bool b) {s with toks:=tk}:=λtk=>⟨.bl _,H,I.tok tk,rfl,qq⟩
 cases q with
 |non=>cases ht;exact Y1 I rx .non h.no fin
 |@ref n a hn =>
  unfold Za at ht
  dsimp only at ht
  cases hg:g[n]? with
  |none=>rw[hg]at ht;cases ht
  |some o =>
   rw[hg]at ht
   obtain⟨a',ha',ob⟩:=r.addr hg
   rw[hn]at ha';cases ha'
   cases o with
   |exc ex =>
    dsimp only at ht
    by_cases hm:ex.1∈all
    ·rw[Uh hm]at ht
     cases ht
     cases rx
     obtain⟨⟨o,vs,h1,h2,h3⟩,_⟩:=I.hok a _ ob
     exact UN (QjI (h.ex _ hm)) I.kIn ⟨o,vs,h1,h2,h3⟩ (h.an _ hm) (λz=>nomatch z) fin
    ·rw[Um hm]at ht;cases ht
   |_=>cases ht
 |_=>cases ht
theorem Qgu{K:Frag}{Φ:XS}{u:V}(σ:L2.St)(H:Hp)(Q:VK)(h:up K ca Φ (mOp1 (Za all cs) me) σ H Q):up K ca Φ me σ H λy H1=>∃x g μ d b,[y,u]=[x,u]/\GRep K ca μ H1 g/\Den K μ H1 x d/\Za all cs d g=.ok (.bl b) g/\Q (.bl b) H1:=by
 obtain⟨σ3,g,μ,R,q⟩:=h
 refine ZO (Qba R q) λy H1 ⟨d,g1,μ1,e1,R1,q1,p1⟩=>?_
 have:∃b,Za all cs d g1=.ok (.bl b) g1:=by
  unfold Za at p1 ⊢
  cases d with
  |non=>exact⟨false,rfl⟩
  |ref n =>
   dsimp only at p1 ⊢
   cases hg:g1[n]? with
   |none=>rw[hg]at p1;exact p1.elim
   |some o =>
    rw[hg]at p1
    cases o with
    |exc ex =>
     dsimp only at p1 ⊢
     by_cases hm:ex.1∈all
     ·rw[Uh hm];exact⟨_,rfl⟩
     ·rw[Um hm]at p1;exact p1.elim
    |_=>exact p1.elim
  |_=>exact p1.elim
 obtain⟨b,hb⟩:=this
 rw[hb]at p1
 exact⟨y,g1,μ1,d,b,rfl,R1.g,q1,hb,p1 _ H1 μ1 .refl R1.g (.bl _)⟩
theorem Jx{x:Str}{C:Addr}(hi:X.mg "isinstance" = none)(hC:X.mg x=some (.ref C)/\IsX X.K ca (.ref C) all cs)(he:PE3 ca X e me)(hgi:Gl X "isinstance":=by rfl)(hg:Gl X x:=by rfl)(hdb:(x == ("__debug__" : Str))=false:=by decide)(hs:starEach [e,.Name x p2] X.env=(false,eval e X.env)::starEach [.Name x p2] X.env:=by rfl)(hs2:starEach [.Name x p2] X.env=(false,eval (.Name x p2) X.env)::starEach [] X.env:=by rfl)(hpl:(backTo pos (starEach [.Name x p2] X.env)).any (·.1)=false:=by rfl):
  PE3 ca X (.Call (.Name "isinstance" p) [e,.Name x p2] [] pos) (mOp1 (Za all cs) me):=λpn Φ =>
 ZP (QaM (X:=xat X ca pn Φ) (Qdy (ca:=ca) (u:=.ref C) (λ_ h=>h) hC.2) hgi hi Ro (Y2 (X:=xat X ca pn Φ) (he pn Φ) (Y2 (X:=xat X ca pn Φ) (Qfp (X:=xat X ca pn Φ) (v:=.ref C) hg hC.1 rfl hdb) Qdp hs2) hs) (by decide) (by decide) hs hpl) λσ H Q h=>Qgu σ H Q h
theorem Qlt{x:Str}{T:String}(hi:X.mg "isinstance" = none)(hm:X.mg x=none)(hC:bootBuiltins x=some (.type T)/\IsX X.K ca (.type T) all cs)(he:PE3 ca X e me)(hgi:Gl X "isinstance":=by rfl)(hg:Gl X x:=by rfl)(hnm:x ≠ "__name__":=by decide)(hdb:(x == ("__debug__" : Str))=false:=by decide)(hs:starEach [e,.Name x p2] X.env=(false,eval e X.env)::starEach [.Name x p2] X.env:=by rfl)(hs2:starEach [.Name x p2] X.env=(false,eval (.Name x p2) X.env)::starEach [] X.env:=by rfl)(hpl:(backTo pos (starEach [.Name x p2] X.env)).any (·.1)=false:=by rfl):
  PE3 ca X (.Call (.Name "isinstance" p) [e,.Name x p2] [] pos) (mOp1 (Za all cs) me):=λpn Φ =>
 ZP (QaM (X:=xat X ca pn Φ) (Qdy (ca:=ca) (u:=.ty T) (λ_ h=>h) hC.2) hgi hi Ro (Y2 (X:=xat X ca pn Φ) (he pn Φ) (Y2 (X:=xat X ca pn Φ) (QdP (X:=xat X ca pn Φ) (v:=.ty T) hg hm hC.1 rfl hnm hdb) Qdp hs2) hs) (by decide) (by decide) hs hpl) λσ H Q h=>Qgu σ H Q h
end
section
variable{K:Frag}{C:Addr}{x:Str}{mg:Str->Option Value}{h:Heap}
theorem Qlu(X:K.In h)(e:mg x=some (.ref C))(q:excIn K C bmV "ValueError.__new__" = true):OwnCls x C bmV "ValueError.__new__" mg h:=by
 refine⟨e,?_⟩
 unfold excIn at q
 split at q
 ·rename_i dd cd sl ho
  split at q
  ·rename_i C' bm k0 k1 k2 k3 n k5 hm hs
   simp only[Uu,U0,Bool.not_eq_true']at q
   obtain⟨⟨⟨⟨⟨rfl,rfl⟩,hdel⟩,ht⟩,hok⟩,hni⟩:=q
   obtain⟨nm,bs,mro,ns,qn,hd,sn,sub,ab,col,del⟩:=cd
   dsimp only at hm hdel hok hni
   subst hm hdel
   have hsl:sl = #[k0,k1,k2,k3,some (.builtin "ValueError.__new__"),k5]:=by
    obtain⟨l⟩:=sl
    simp only at hs
    rw[hs]
   subst hsl
   exact⟨bm,ns,nm,qn,bs,hd,sn,sub,ab,col,dd,k0,k1,k2,k3,k5,_,X _ _ ho,.of_isNs (isNs_of_in X hok),nsMap_none_of_in X hok hni,tail_of_in X ht⟩
  ·cases q
 ·cases q
end
theorem Inv.there'{X:Cx}{pins:List (Addr×Obj)}{σ:L2.St}{H:Hp}{s:Shared}{a:Addr}{o:HO}(I:Inv X pins σ H s)(h:H a=some o):∃u,s.heap.get? a=some u:=by
 have:=I.hok a o h
 cases o with
 |lst xs=>obtain⟨_,_,_,_,e⟩:=this;exact⟨_,e⟩
 |tup xs=>obtain⟨_,_,_,u,e,_⟩:=this;exact⟨u,e⟩
 |dK kvs=>obtain⟨_,_,_,_,u,_,_,e,_⟩:=this;exact⟨u,e⟩
 |dT kvs=>obtain⟨_,_,_,_,u,_,_,e,_⟩:=this;exact⟨u,e⟩
 |set S n=>obtain⟨u,_,_,_,e,_⟩:=this;exact⟨u,e⟩
 |ins C dx fs=>obtain⟨_,_,_,e,_⟩:=this;exact⟨_,e⟩
 |own y=>exact this
 |xd fs=>obtain⟨_,⟨_,_,_,e,_⟩,_⟩:=this;exact⟨_,e⟩
 |met f x=>exact⟨_,this⟩
 |rng lo hi=>obtain⟨_,_,_,e⟩:=this;exact⟨_,e⟩
 |frz u v=>exact⟨_,this.1⟩
 |tbl ps=>exact⟨_,this⟩
 |ext φ=>exact this.2.1
structure RaH(K:Frag)(mg:Str->Option Value)(ca:Nat->Addr)(c:Nat)(x:Str):Prop where
 at':mg x=some (.ref (ca c))
 ex:excIn K (ca c) bmV "ValueError.__new__" = true
section
variable{X:Cx}{ca:Nat->Addr}{e:Expr}{es:List Expr}{mr:MA}{np cpos pos:Pos}{c:Nat}{x:Str}
theorem Zl(h:RaH X.K X.mg ca c x)(hh:X.A.handled=none)(ha:PA3 ca X (e::es) mr)(hg:Gl X x:=by rfl)(hdb:(x == ("__debug__" : Str))=false:=by decide)(he:starEach (e::es) X.env=(false,eval e X.env)::starEach es X.env:=by rfl)(hpl:(backTo cpos (starEach es X.env)).any (·.1)=false:=by rfl):PS3 ca X (.Raise (some (.Call (.Name x np) (e::es) [] cpos)) none pos) (Zv c mr):=by
 intro pn Φ pins s σ H En I ⟨σ3,g,μ,R,p⟩
 obtain⟨bm,N,nm,q,bs,hdct,sn,sub,ab,col,dd,k0,k1,k2,k3,k5,mN,hC,hN,hni,T⟩:=(Qlu (h:=X.base) I.ok.mod.kin h.at' h.ex).obj
 refine wpAny_Raise_call_subT (C:=ca c) (nm:=nm) (q:=q) (N:=N) (bs:=bs) (bm:=bm) (hdct:=hdct) (sn:=sn) (sub:=sub) (ab:=ab) (col:=col) (dd:=dd) (k0:=k0) (k1:=k1) (k2:=k2) (k3:=k3) (k5:=k5)
  Ry (mN:=mN) (T.hasType Ry.hasBase) hh ?_ hni (Qcv I hg h.at' ⟨rfl,?_⟩ hdb)
 ·show(backTo cpos (starEach (e::es) X.env)).any (·.1)=false
  rw[he]
  show(false || (backTo cpos (starEach es X.env)).any (·.1))=false
  rw[hpl];rfl
 ·have z:upA X.K ca Φ mr σ H λvs H1=>vs.length<=sizeLine/\Φ (c,none) σ H1:=by
   refine⟨σ3,g,μ,R,?_⟩
   unfold Zv at p
   cases hm:mr σ3 g with
   |raise _ _=>rw[hm]at p;exact RaP.stmt R p
   |stuck=>rw[hm]at p;exact p
   |ok ds g1 =>
    rw[hm]at p
    dsimp only at p
    intro vs H1 μ1 e1 r1 q1
    by_cases hz:ds.length<=SZ
    ·rw[Uh hz]at p
     exact⟨q1.sz hz,p σ H1 μ1 e1 (R.go e1 r1)⟩
    ·rw[Um hz]at p;exact p.elim
  have az:=ha pn Φ cpos pins s σ H _ I z
  have he':starEach (e::es) (xat X ca pn Φ).env=(false,eval e X.env)::starEach es X.env:=he
  show wpAny _ _ (evalArgs (.ref (ca c)) true (backTo cpos (starEach (e::es) X.env)) []) _ _ s
  rw[he']at az
  rw[he]
  refine Calls.evalArgs_plain (UV az (λus s2 ⟨vs,H1,I1,r1,hz,hΦ⟩=>⟨rfl,by rw[<-r1.length];exact hz,I1.bk _ _ hC,hN.keeps I1.bk,T.keeps I1.bk,λh' ea hm=>?_⟩) λ_ _ y=>y)
  have I2:Inv (xon X pn) [] σ H1 s2:=(Qks I1).pins_of λp hp=>absurd hp (by simp)
  have I3:Inv (xon X pn) [] σ H1 {s2 with heap:=h'}:=I2.kept (t':=s2.toks) hm.keeps
  have hn:H1 ea=none:=by
   cases hq:H1 ea with
   |none=>rfl
   |some o =>
    obtain⟨o',ho'⟩:=Inv.there' I2 hq
    rw[hm.new]at ho';cases ho'
  obtain⟨t,ht,_⟩:=hm.there
  exact⟨ea,(c,none),σ,H1,rfl,I3,⟨Qgk I2 hm.new hn,rfl,_,_,ht,⟨rfl,rfl⟩,rfl,by simp,.inl rfl⟩,hΦ⟩
end
structure CatX(K:Frag)(ca:Nat->Addr)(C:Addr)(cs no:List Nat):Prop where
 ci:(clsIn K C).isSome=true
 ty:typeIn K (.ref C)=some (.type "type")
 sb:subIn K (.ref C) (.type "BaseException")=some true
 yes:∀c∈cs,subIn K (.ref (ca c)) (.ref C)=some true
 no':∀c∈no,subIn K (.ref (ca c)) (.ref C)=some false
section
variable{prog:Program}{w:World}{A:Around}{E:Value->Shared->Prop}{s:Shared}{K:Frag}{ca:Nat->Addr}{C D e:Addr}{oe:Obj}{cs no:List Nat}{b:Bool}
theorem Qil{Q:Bool->Shared->Prop}(X:K.In s.heap)(F:CatX K ca C cs no)(hx:s.heap.get? e=some oe)(hc:oe.cls=.ref D)(hs:subIn K (.ref D) (.ref C)=some b)(h:Q b s):wpAny (model prog w) A (excMatches (.ref e) (.ref C)) Q E s:=by
 obtain⟨hh,g,d,t,os⟩:=s
 have L0:=looks_typeIn (M:=model prog w) X F.ty
 have L1:=Rs (M:=model prog w) X F.sb
 have L2:=Rs (M:=model prog w) X hs
 have L3:Looks (model prog w) hh (isType (.ref C)) true:=by
  obtain⟨cd,hc⟩:=Td.mp F.ci
  unfold clsIn at hc
  split at hc
  ·rename_i c' d' cd' sl' ho
   intro A' Q' E' s' k q
   unfold isType loadHead
   exact Ua (Wp (k _ _ (X _ _ ho)) (Uj q))
  ·cases hc
 have f:=tc_notTuple
 unfold excMatches isInstance
 refine Ua (Ua (L0.at (Wq f ?_)))
 simp only[TV,Rr]
 refine Ua (Uj ?_)
 simp only[Rm,RH]
 unfold isExcClass
 refine Ua (Ua (Ua (Ua (L3.at ?_))))
 rw[Uh rfl]
 refine L1.at ?_
 simp only[Bool.not_true,TV,Rr]
 refine Uj (Uj ?_)
 have L4:Looks (model prog w) hh (typeOf (.ref e)) (.ref D):=hc ▸ (Looks.ld hx).andThen .now
 refine Ua (L4.at (Ua (Ua (Ua (L2.at ?_)))))
 cases b with
 |true=>rw[Uh rfl];exact Uj (Uj (Uj h))
 |false=>rw[Um Uc];exact Uj (Uj (Uj h))
end
noncomputable abbrev xmk(X:Cx)(v:Value):Cx:={X with A:=X.A.mark (some v),calm:=false}
section
variable{X:Cx}{ca:Nat->Addr}{pins:List (Addr×Obj)}{σ:L2.St}{H:Hp}{s:Shared}{a:Addr}{x:Xc}
theorem Qkx(v:Value)(I:Inv X pins σ H s):Inv (xmk X v) pins σ H s :=
 ⟨⟨I.ok.mod,I.ok.kind,I.ok.glob,I.ok.blt,I.ok.above,I.ok.inj,I.ok.has,I.ok.cab,(λz=>by cases z),I.ok.frames,I.ok.stk,I.ok.exf,I.ok.bs,I.ok.bsz,I.ok.noex,I.ok.exfs,I.ok.funs,I.ok.frf⟩,I.os,I.bare,I.base,I.loc,I.cell,I.free,I.freeC,I.pin,I.hok,I.len⟩
theorem Qgv{v:Value}(h:X.calm=true->X.A.handled=none)(I:Inv (xmk X v) pins σ H s):Inv X pins σ H s :=
 ⟨⟨I.ok.mod,I.ok.kind,I.ok.glob,I.ok.blt,I.ok.above,I.ok.inj,I.ok.has,I.ok.cab,h,I.ok.frames,I.ok.stk,I.ok.exf,I.ok.bs,I.ok.bsz,I.ok.noex,I.ok.exfs,I.ok.funs,I.ok.frf⟩,I.os,I.bare,I.base,I.loc,I.cell,I.free,I.freeC,I.pin,I.hok,I.len⟩
theorem Qg5{o:HO}(I:Inv X pins σ H s)(ha:FpW X pins H a)(new:ObjOk X.prog X.w (upd H a o) s.heap a o):Inv X pins σ (upd H a o) s:=by
 have ne:∀b u,H b=some u->b≠a:=λb u e=>Zg e ha.1
 refine QeT (h':=s.heap) (H':=upd H a o) (g':=s.gens) (t':=s.toks) (d':=s.drawn) (ch:=[a]) I (λb hb=>?_) (λb o _ _ _ e _=>e) (λb o _ _ _ e _=>⟨o.slots,e⟩) (λb o hb e n=>?_) (λb o _ e=>⟨o,e⟩)
  (λb xs e=>by rw[QP (ne b _ e)];exact e) (λb o u e=>by rw[QP (ne b _ e)];exact e) (λb ps e=>⟨#[],by rw[QP (ne b _ e),e];simp⟩) (λ_ h=>h) (λb u e=>?_) I.bare
 ·rw[Ug.mp hb]
  exact⟨ha.2.2.2.1,ha.2.1,ha.2.2.2.2.1,ha.2.2.2.2.2⟩
 ·rw[QP (λz=>hb (by simp[z]))];exact n
 ·by_cases hb:b=a
  ·subst hb;rw[QN]at e;cases e;exact new
  ·rw[QP hb]at e
   exact(I.hok b u e).stay (λ_ _ _ q=>q) (λc q=>by rw[QP (ne c _ q)];exact q) λc xs q=>by rw[QP (ne c _ q)];exact q
theorem Qim{M:Model}{A:Around}{E:Value->Shared->Prop}{i:Nat}{n:Str}{pos:Pos}{Q:Unit->Shared->Prop}(I:Inv X pins σ H s)(hN:X.N.Nodup)(hi:X.N[i]?=some n)(hl:X.env.kindOf n=some .local)(h:∀s',Inv X pins (σ.set i none) H s'->Q () s'):wpAny M A (do bindName X.env n .none;unbindBehindTheSuite X.env n pos) Q E s:=by
 obtain⟨m,hn,hlk⟩:=id I.loc
 have hcls:(X.env.scope.kind == .class || (X.env.scope.kind == .module && X.env.locals != X.env.globals))=false:=by rw[I.ok.kind];rfl
 refine wpAny_nameGoes_keeps hl hn hcls λh' v hn' hs=>h _ ?_
 have old:∀b o,b≠X.env.locals->s.heap.get? b=some o->h'.get? b=some o:=λb o hb e=>(hs.2 b hb).trans e
 have neL:∀b o,X.s₀.heap.get? b=some o->b≠X.env.locals:=λb o e=>UI (Ux (Uk e) I.ok.above)
 obtain⟨oL,_,_,hoL,_⟩:=id hn
 refine⟨I.ok,I.os,I.bare,⟨λb o e n hb hx=>old b o (neL b o e) (I.base.keep b o e n hb hx),λb o e n hb hx=>?_,I.base.free,λb o e hx=>?_,I.base.tups,I.base.frzs,I.base.tbls⟩,⟨_,hn',λj y u e1 e2 e3=>?_⟩,λy c e=>?_,I.free,I.freeC,λp hp=>?_,λb o e=>?_,by simpa using I.len⟩
 ·obtain⟨sl,z⟩:=I.base.slot b o e n hb hx
  exact⟨sl,old b _ (neL b o e) z⟩
 ·obtain⟨o',z⟩:=I.base.there b o e hx
  exact⟨o',old b _ (neL b o e) z⟩
 ·have hj:j≠i:=λz=>by
   subst z
   rw[List.getElem?_set]at e2
   split at e2
   ·split at e2 <;> simp at e2
   ·rename_i q;exact q rfl
  rw[Uq (Ne.symm hj)]at e2
  obtain⟨u',r',q⟩:=hlk j y u e1 e2 e3
  refine⟨u',r',?_⟩
  rcases q with⟨k,e⟩|⟨k,c,e,z⟩
  ·refine .inl ⟨k,?_⟩
   have:y≠n:=λe=>hj (QdO hN e1 (e ▸ hi))
   simp[this,e]
  ·exact .inr ⟨k,c,e,z.sameBut hs (I.cne y c e)⟩
 ·obtain⟨w',z⟩:=I.cell y c e
  exact⟨w',z.sameBut hs (I.cne y c e)⟩
 ·obtain⟨e,n,ne,nf,d⟩:=I.pin p hp
  exact⟨old p.1 _ ne e,n,ne,nf,d⟩
 ·refine(I.hok b o e).stay (λc w' hc q=>old c _ ?_ q) (λ_ q=>q) λ_ _ q=>q
  rintro rfl
  rcases hc with z|z
  ·rw[<-z,I.free]at e;cases e
  ·rw[I.free]at z;cases z
end
section
variable{X:Cx}{ca:Nat->Addr}{body suite:List Stmt}{b0:Stmt}{mb mc:MS}{np hpos pos:Pos}{C:Addr}{cs no:List Nat}{T n:Str}
theorem Qm3{Y:Cx}{pn pins:List (Addr×Obj)}{E E':Value->Shared->Prop}{σ:L2.St}{H:Hp}{s:Shared}(I:Inv {Y with pn:=pn,xe:=E} pins σ H s):Inv {Y with pn:=pn++pins,xe:=E'} [] σ H s :=
 ⟨⟨I.ok.mod,I.ok.kind,I.ok.glob,I.ok.blt,I.ok.above,I.ok.inj,I.ok.has,I.ok.cab,I.ok.hd,I.ok.frames,I.ok.stk,I.ok.exf,I.ok.bs,I.ok.bsz,I.ok.noex,I.ok.exfs,I.ok.funs,I.ok.frf⟩,I.os,I.bare,I.base,I.loc,I.cell,I.free,I.freeC,λp hp=>I.pin p (by rw[UW]at hp;exact hp),I.hok,I.len⟩
theorem QcE{Y:Cx}{pn pins:List (Addr×Obj)}{E E':Value->Shared->Prop}{σ:L2.St}{H:Hp}{s:Shared}(I:Inv {Y with pn:=pn++pins,xe:=E} [] σ H s):Inv {Y with pn:=pn,xe:=E'} pins σ H s :=
 ⟨⟨I.ok.mod,I.ok.kind,I.ok.glob,I.ok.blt,I.ok.above,I.ok.inj,I.ok.has,I.ok.cab,I.ok.hd,I.ok.frames,I.ok.stk,I.ok.exf,I.ok.bs,I.ok.bsz,I.ok.noex,I.ok.exfs,I.ok.funs,I.ok.frf⟩,I.os,I.bare,I.base,I.loc,I.cell,I.free,I.freeC,λp hp=>I.pin p (by rw[UW];exact hp),I.hok,I.len⟩
theorem Qin{pn:List (Addr×Obj)}{σ:L2.St}{H:Hp}{s:Shared}{a:Addr}{x:Xc}{oe:Obj}{R:Result->Shared->Prop}{b:Bool}(I:Inv (xon X pn) [] σ H s)(hT:X.mg T=some (.ref C))(F:CatX X.K ca C cs no)(he:s.heap.get? a=some oe)(ho:XOb ca x oe)(hs:subIn X.K (.ref (ca x.1)) (.ref C)=some b)(hg:Gl X T)(hdb:(T == ("__debug__" : Str))=false)(h:R (.ok (if b then .brk else .next)) s):
  codeAny (model X.prog X.w) (X.A.mark (some (.ref a))) (.handlers (.ref a) [.ExceptHandler (some (.Name T np)) none [] hpos] X.env) R s :=
 codeAny_handlers_test (Qcv (X:=xmk (xon X pn) (.ref a)) (Qkx _ I) hg hT (Qil I.kIn F he ho.1 hs h) hdb)
theorem Qlv{pn pins:List (Addr×Obj)}{Φ:XS}{σ:L2.St}{H:Hp}{s:Shared}{a:Addr}{x:Xc}{Q:Flow->Shared->Prop}(hf:X.env.frame=some X.env.locals)(I:Inv (xon X (pn++pins)) [] σ H s)(fl:FlT (xon X (pn++pins)) ca a x H s.heap)(h:Φ x σ H):
  wpAny (model X.prog X.w) X.A (handleBy (.ref a) X.env []) Q (xat X ca pn Φ).xe s:=by
 refine wpAny_handleBy_nil ?_
 unfold PySem.passOn
 obtain⟨fp,ln,oe,vs,T,oT,ts,he,hc,hd,hv,hTa,fT,hT,hdT,hs3⟩:=id fl
 refine Ua (UK he hd hv ?_)
 rw[Um (show ¬((Value.ref T == Value.none)=true) from by simp)]
 refine Ua (Qah (fo:=X.env.frame) I fl λh2 T oT ts oe vs I2 a1 a2 a3 a4 a5 a6 a7 a8 a9 a10=>wpAny_throw ?_)
 rw[hf]at a10
 have dn:∀{b:Addr},FpW (xon X (pn++pins)) [] H b->FpW (xon X pn) [] H b:=λz=>⟨z.1,z.2.1,z.2.2.1,z.2.2.2.1,z.2.2.2.2.1,λp hp=>z.2.2.2.2.2 p (by rw[UW]at hp ⊢;exact Te _ hp)⟩
 exact⟨a,x,σ,H,rfl,(QcE (Y:=X) I2).pins_of λp hp=>absurd hp (by simp),FlN.fl ⟨dn fp,ln,oe,vs,T,oT,ts,a1,a2,a3,a4,a5,dn a6,a7,a8,a10⟩,h⟩
theorem QjJ{hs:List MH}{h0:ExceptHandler}{hr:List ExceptHandler}(hb:PSs3 ca X body mb)(hk:X.stack=X.env::X.outer)(hf:X.env.frame=some X.env.locals)(hh:∀(pn pins:List (Addr×Obj)) (Φ:XS) (En:Ends) (σ:L2.St) (H:Hp) (s:Shared) (a:Addr) (x:Xc) (σ3:S3) (g:G) (μ:List Addr),(X.calm=true->X.A.handled=none)->Inv (xon X (pn++pins)) [] σ H s->FlT (xon X (pn++pins)) ca a x H s.heap->Rep X.K ca μ σ3 g σ H->PostS X.K ca Φ En H μ (runH hs x σ3 g) ->
   wpAny (model X.prog X.w) X.A (handleBy (.ref a) X.env (h0::hr)) (SP (xat X ca pn Φ) pins En) (xat X ca pn Φ).xe s):PS3 ca X (.Try body (h0::hr) [] [] pos) (mTry mb hs):=by
 intro pn Φ pins s σ H En I ⟨σ3,g,μ,R,p⟩
 refine wpAny_Try_except ?_
 have p1:PostS X.K ca (λx σ' H'=>∃σ4 g4 μ4,Rep X.K ca μ4 σ4 g4 σ' H'/\PostS X.K ca Φ En H' μ4 (runH hs x σ4 g4)) En H μ (mb σ3 g):=by
  unfold mTry at p
  cases hm:mb σ3 g with
  |nx _ _=>rw[hm]at p;exact p
  |rt _ _=>rw[hm]at p;exact p
  |bk _ _=>rw[hm]at p;exact p
  |ct _ _=>rw[hm]at p;exact p
  |raise x σ' g'=>rw[hm]at p;exact λσ4 H' μ' e R'=>⟨σ',g',μ',R',PostS.go e p⟩
  |stuck=>rw[hm]at p;exact p
 refine UV (hb (pn++pins) _ [] s σ H En (Qm3 (Y:=X) I) ⟨σ3,g,μ,R,p1⟩) (λf s1 h1=>?_) λv s1 h1=>?_
 ·cases f with
  |next=>obtain⟨σ',H',J,q⟩:=h1;exact Qhy (X:=xat X ca pn Φ) pins s1 σ' H' En (QcE (Y:=X) J) q
  |brk=>obtain⟨σ',H',J,q⟩:=h1;exact⟨σ',H',QcE (Y:=X) J,q⟩
  |cont=>obtain⟨σ',H',J,q⟩:=h1;exact⟨σ',H',QcE (Y:=X) J,q⟩
  |ret u=>obtain⟨v,σ',H',J,r,q⟩:=h1;exact⟨v,σ',H',QcE (Y:=X) J,r,q⟩
 ·obtain⟨a,x,σ',H',rfl,I1,fl,σ4,g4,μ4,R4,p4⟩:=h1
  refine Qfv (X:=xon X (pn++pins)) I1 hk hf fl λh2 I2 f2=>?_
  refine Qah (X:=xon X (pn++pins)) (fo:=none) I2 f2.t λh3 T oT ts oe vs I3 a1 a2 a3 a4 a5 a6 a7 a8 a9 a10=>?_
  exact hh pn pins Φ En σ' H' _ a x σ4 g4 μ4 I.ok.hd I3 ⟨f2.1,f2.2.1,oe,vs,T,oT,ts,a1,a2,a3,a4,a5,a6,a7,a8,a9⟩ R4 p4
theorem Qlw(i:Nat)(hN:X.N.Nodup)(hT:X.mg T=some (.ref C)/\CatX X.K ca C cs no)(hb:PSs3 ca X body mb)(hc:∀a,PSs3 ca (xmk X (.ref a)) (b0::suite) mc)(hi:X.N[i]?=some n:=by rfl)(hl:X.env.kindOf n=some .local:=by rfl)(hg:Gl X T:=by rfl)(hdb:(T == ("__debug__" : Str))=false:=by decide)(hk:X.stack=X.env::X.outer:=by rfl)(hf:X.env.frame=some X.env.locals:=by rfl):
  PS3 ca X (.Try body [.ExceptHandler (some (.Name T np)) (some n) (b0::suite) hpos] [] [] pos) (mTry mb [⟨cs,no,some i,mc⟩]):=by
 refine QjJ hb hk hf λpn pins Φ En σ H s a x σ3 g μ hcalm I fl R p=>?_
 obtain⟨fp,ln,oe,vs,Tb,oT,ts,he,hox,hd,hv,hTa,fT,hTT,hdT,hs3⟩:=id fl
 unfold runH at p
 by_cases hx:x.1∈cs
 ·rw[Uh hx]at p
  dsimp only at p
  refine wpAny_handleBy_cons (Qin I hT.1 hT.2 he hox (hT.2.yes _ hx) hg hdb ?_) (by intro q;cases q)
  refine codeAny_handlers_suite_as ?_
  refine Qah (fo:=none) I fl λh2 T2 oT2 ts2 oe2 vs2 I2 b1 b2 b3 b4 b5 b6 b7 b8 b9 b10=>?_
  have I3:Inv (xon X (pn++pins)) [] σ (upd H a (XO ca a x)) {s with heap:=h2}:=Qg5 I2 fp ⟨⟨oe2,vs2,b1,b2,b3⟩,⟨oe2,b1⟩,λh3 h4 ⟨o,ws,c1,c2,c3⟩ k=>⟨o,ws,k o c1,c2,c3⟩⟩
  have ex:Ext X.K μ H (μ++[a]) (upd H a (XO ca a x)):=Q4 fp.1
  have G3:GRep X.K ca (μ++[a]) (upd H a (XO ca a x)) (g++[.exc x]):=R.g.push fp.1 QN
  have ea:(μ++[a])[g.length]?=some a:=by rw[<-R.g.len];simp
  refine Qch (X:=xmk (xon X (pn++pins)) (.ref a)) (Qkx _ I3) hN hi (.inl hl) (v:=.ref a) rfl (λs4 I4=>?_) (.inr hl)
  have R4:Rep X.K ca (μ++[a]) (σ3.set i (some (.ref g.length))) (g++[.exc x]) (σ.set i (some (.ref a))) (upd H a (XO ca a x)):=(R.go ex G3).set (.ref ea) i
  have hcc:=hc a (pn++pins) F0 [] s4 (σ.set i (some (.ref a))) (upd H a (XO ca a x)) {nx:=λσ' H'=>En.nx (σ'.set i none) H',rt:=En.rt} (Inv.wish I4 _) ⟨_,_,_,R4,by
   cases hm:mc (σ3.set i (some (.ref g.length))) (g++[.exc x]) with
   |nx σ5 g5 =>
    rw[hm]at p
    intro σ' H' μ' e' R'
    refine p (σ'.set i none) H' μ' (ex.trans e') ⟨R'.g,by rw[UO,UO,R'.len],λj d hj=>?_⟩
    have hji:j≠i:=λz=>by
     subst z
     rw[List.getElem?_set]at hj
     split at hj
     ·split at hj <;> simp at hj
     ·rename_i q;exact q rfl
    rw[Uq (Ne.symm hji)]at hj ⊢
    exact R'.st j d hj
   |rt d g5=>rw[hm]at p;exact λv H' μ' e'=>p v H' μ' (ex.trans e')
   |bk _ _=>rw[hm]at p;exact p.elim
   |ct _ _=>rw[hm]at p;exact p.elim
   |raise _ _ _=>rw[hm]at p;exact p.elim
   |stuck=>rw[hm]at p;exact p.elim⟩
  refine UV (noX hcc) (λf s5 h5=>?_) λ_ _ z=>z.elim
  cases f with
  |next =>
   obtain⟨σ',H',J,q⟩:=h5
   have J':Inv (xon X (pn++pins)) [] σ' H' s5:=Qgv (v:=.ref a) hcalm (Inv.wish J _)
   exact Qim (X:=xon X (pn++pins)) J' hN hi hl λs6 J6=>⟨_,H',QcE (Y:=X) J6,q⟩
  |ret u =>
   obtain⟨v,σ',H',J,r,q⟩:=h5
   have J':Inv (xon X (pn++pins)) [] σ' H' s5:=Qgv (v:=.ref a) hcalm (Inv.wish J _)
   exact Qim (X:=xon X (pn++pins)) J' hN hi hl λs6 J6=>⟨v,_,H',QcE (Y:=X) J6,r,q⟩
  |brk=>obtain⟨_,_,_,q⟩:=h5;exact q.elim
  |cont=>obtain⟨_,_,_,q⟩:=h5;exact q.elim
 ·rw[Um hx]at p
  by_cases hn:x.1∈no
  ·rw[Uh hn]at p
   refine wpAny_handleBy_cons (Qin I hT.1 hT.2 he hox (hT.2.no' _ hn) hg hdb ?_) (by intro q;cases q)
   exact Qlv hf I fl (p σ H μ .refl R)
  ·rw[Um hn]at p;exact p.elim
end
noncomputable def bchk(sc scope:Scope)(N Nb:List Str)(no:Nat)(cap:List Nat):Bool :=
 decide (scope.kind=.function) && scope.names.all (λy=>decide (y.2≠.cell)) && scope.names.all (λy=>decide (y.2≠.local) || decide (scope.names.lookup y.1=some .local)) &&
 scope.names.all (λy=>decide (y.2≠.free) || decide (sc.names.lookup y.1=some .cell) || decide (sc.names.lookup y.1=some .free)) && decide (Nb.length=no+cap.length) &&
 (List.range cap.length).all λj=>match cap[j]?,Nb[no+j]? with
  |some i,some x=>decide (N[i]?=some x) && decide (scope.names.lookup x=some .free) && (decide (sc.names.lookup x=some .cell) || decide (sc.names.lookup x=some .free))
  |_,_=>false
theorem ZM{X:Cx}{scope sc:Scope}{N Nb:List Str}{no:Nat}{cap:List Nat}(hsc:X.env.scope=sc)(hN:X.N=N)(h:bchk sc scope N Nb no cap=true):BScope X scope Nb no cap:=by
 subst hsc hN
 unfold bchk at h
 simp only[Uu,TJ]at h
 obtain⟨⟨⟨⟨⟨h1,h2⟩,h3⟩,h4⟩,h5⟩,h6⟩:=h
 rw[Us]at h2 h3 h4 h6
 refine⟨h1,λy hy=>U7 (h2 y hy),λy hy e=>?_,λy hy e=>?_,h5,λj i hj=>?_⟩
 ·rcases Rt.mp (h3 y hy) with z|z
  ·exact absurd e (U7 z)
  ·exact U7 z
 ·rcases Rt.mp (h4 y hy) with z|z
  ·rcases Rt.mp z with z|z
   ·exact absurd e (U7 z)
   ·exact .inl (U7 z)
  ·exact .inr (U7 z)
 ·have hl:j<cap.length:=(Uf.mp hj).1
  have z:=h6 j (RG.mpr hl)
  rw[hj]at z
  cases hx:Nb[no+j]? with
  |none=>rw[hx]at z;cases z
  |some x =>
   rw[hx]at z
   simp only[Uu,Bool.or_eq_true,TJ]at z
   obtain⟨⟨z1,z2⟩,z3⟩:=z
   refine⟨x,rfl,z1,z2,.inr z3,λq=>?_⟩
   have q:X.env.scope.names.lookup x=some .local:=q
   rcases z3 with z|z
   ·rw[z]at q;cases q
   ·rw[z]at q;cases q
noncomputable def exkB(K:Frag)(C:Addr):Bool :=
 (findIn K (.ref C) "__getattribute__" == some (some (.builtin "BaseException.__getattribute__"))) && (findIn K (.ref C) "__getattr__" == some none) && (findIn K (.ref C) "__class__" == some (some (.builtin "object.__class__"))) &&
 (specialIn K (.builtin "object.__class__") "__get__" == some (some (.builtin "getset_descriptor.__get__"))) && (takesIn K (.builtin "object.__class__") == some true) && (mroIn K C (.type "object") == some true) &&
 (subIn K (.ref C) (.type "BaseException") == some true) && (clsIn K C).isSome
theorem Qm4{K:Frag}{C:Addr}(h:exkB K C=true):ExK K C:=by
 unfold exkB at h
 simp only[Uu,U0]at h
 obtain⟨⟨⟨⟨⟨⟨⟨h1,h2⟩,h3⟩,h4⟩,h5⟩,h6⟩,h7⟩,h8⟩:=h
 exact⟨h1,h2,h3,h4,h5,h6,h7,h8⟩
noncomputable def isxB(K:Frag)(ca:Nat->Addr)(T:Value)(all cs:List Nat):Bool:=all.all (λc=>exkB K (ca c) && (kitOne K (.ref (ca c)) T == some (decide (c∈cs)))) && (kitOne K (.type "NoneType") T == some false)
theorem Qan{K:Frag}{ca:Nat->Addr}{T:Value}{all cs:List Nat}(h:isxB K ca T all cs=true):IsX K ca T all cs:=by
 unfold isxB at h
 rw[Uu,Us]at h
 exact⟨λc hc=>Qm4 (TK.mp (h.1 c hc)).1,λc hc=>U0.mp (TK.mp (h.1 c hc)).2,U0.mp h.2⟩
noncomputable def catB(K:Frag)(ca:Nat->Addr)(C:Addr)(cs no:List Nat):Bool:=(clsIn K C).isSome && (typeIn K (.ref C) == some (.type "type")) && (subIn K (.ref C) (.type "BaseException") == some true) &&
 cs.all (λc=>subIn K (.ref (ca c)) (.ref C) == some true) && no.all λc=>subIn K (.ref (ca c)) (.ref C) == some false
theorem Qm5{K:Frag}{ca:Nat->Addr}{C:Addr}{cs no:List Nat}(h:catB K ca C cs no=true):CatX K ca C cs no:=by
 unfold catB at h
 simp only[Uu,U0,Us]at h
 obtain⟨⟨⟨⟨h1,h2⟩,h3⟩,h4⟩,h5⟩:=h
 exact⟨h1,h2,h3,h4,h5⟩
noncomputable def clsB(K:Frag)(C:Addr):Bool:=plainGet K C Str.empty && hasDictIn K C && plainOver K C && (findIn K (.ref C) "__setattr__" == some (some (.builtin "object.__setattr__")))
theorem Qm6{K:Frag}{C:Addr}(h:clsB K C=true):Cls K C:=by
 unfold clsB at h
 simp only[Uu,U0]at h
 obtain⟨⟨⟨h1,h2⟩,h3⟩,h4⟩:=h
 exact⟨h1,h2,h3,h4⟩
noncomputable def fldB(K:Frag)(ca:Nat->Addr)(cs:List Nat)(f:Str):Bool:=cs.all λc=>clsB K (ca c) && (findIn K (.ref (ca c)) f == some none)
theorem Qm7{K:Frag}{ca:Nat->Addr}{cs:List Nat}{f:Str}(h:fldB K ca cs f=true):FldOk K ca cs f:=by
 unfold fldB at h
 rw[Us]at h
 exact⟨λc hc=>Qm6 (TK.mp (h c hc)).1,λc hc=>U0.mp (TK.mp (h c hc)).2⟩
section
variable{X:Cx}{ca:Nat->Addr}{pos:Pos}{x:Str}
theorem Q2{t:Str}(h:∃k,X.mg x=some (.str t k))(hg:Gl X x:=by rfl)(hd:(x == ("__debug__" : Str))=false:=by decide):PE3 ca X (.Name x pos) (mLit (.str t)):=by
 obtain⟨k,h⟩:=h
 exact Qkr h (v:=.str t) ⟨k,rfl⟩ (λ_ _ _=>.str t) hg hd
theorem Qio{i:Int}(h:∃k,X.mg x=some (.int i k))(hg:Gl X x:=by rfl)(hd:(x == ("__debug__" : Str))=false:=by decide):PE3 ca X (.Name x pos) (mLit (.int i)):=by
 obtain⟨k,h⟩:=h
 exact Qkr h (v:=.int i) ⟨k,rfl⟩ (λ_ _ _=>.int i) hg hd
end
theorem Qky:bootBuiltins "int" = some (.type Ty.int.name):=boot_int
theorem Qip:bootBuiltins "bool" = some (.type Ty.bool.name):=by decide +kernel
theorem Qkz:bootBuiltins "str" = some (.type Ty.str.name):=by decide +kernel
theorem Jh:bootBuiltins "tuple" = some (.type Ty.tuple.name):=boot_tuple
theorem QfA:bootBuiltins "list" = some (.type Ty.list.name):=boot_list
theorem Qiq:bootBuiltins "dict" = some (.type Ty.dict.name):=by decide +kernel
theorem Qd3:bootBuiltins "ValueError" = some (.type "ValueError"):=by decide +kernel
section
variable{P:Program}{w:World}{K:Frag}{mg:Str->Option Value}{base:Heap}{ca:Nat->Addr}
theorem Qlx{f:Addr}{fd:FuncData}{ps:List Str}{k n:Nat}(hn:ps.length=n):FnOk P w K mg base (CXW P w ca) k f fd ps (spM K ca n λ_ _=>.stuck):=by
 subst hn
 exact⟨λvs H Q E q=>q.1,λA outer s H args us vs Q E _ _ _ _ h=>by obtain⟨_,_,_,_,_,_,z⟩:=h;exact z.elim⟩
theorem Qm8{F:MF}{H:Hp}{a:Addr}{ns:List Int}(hO:Only H)(hS:SqL K H a (ns.map V.int))(h:∃g',F [.fl (ns.map D.int)] []=.ok (.bl true) g'):spM K ca 1 F [.ref a] H (λv _=>v=.bl true) λ_ _ _=>False:=by
 obtain⟨g',h⟩:=h
 have hF:SqF K H a (ns.map V.int):=by
  rcases hS with(h|⟨o,h⟩)|h
  ·rcases hO a with z|⟨o,xs,z⟩
   ·rw[h]at z;cases z
   ·rw[h]at z;cases z
  ·exact .inl ⟨o,h⟩
  ·exact .inr (.inr h)
 refine⟨rfl,[.fl (ns.map D.int)],[],[],⟨rfl,.nil,λn a o h=>by simp at h⟩,.cons (.fl hF (Dens.ints ns)) .nil,?_⟩
 rw[h]
 intro v H' μ' e r q
 cases q
 rfl
end
end L3
namespace L3
open PySem PySem.Spec
section
theorem len0{α:Type}{us:List α}(h:us.length=0):us=[]:=List.eq_nil_of_length_eq_zero h
theorem len1{α:Type}{us:List α}(h:us.length=1):∃a0,us=[a0]:=by
 cases us with
 |nil=>cases h
 |cons a r =>
  have e:=len0 (Nat.succ.inj h)
  subst e
  exact⟨a,rfl⟩
theorem len2{α:Type}{us:List α}(h:us.length=2):∃a0 a1,us=[a0,a1]:=by
 cases us with
 |nil=>cases h
 |cons a r =>
  obtain⟨b0,rfl⟩:=len1 (Nat.succ.inj h)
  exact⟨a,b0,rfl⟩
theorem len3{α:Type}{us:List α}(h:us.length=3):∃a0 a1 a2,us=[a0,a1,a2]:=by
 cases us with
 |nil=>cases h
 |cons a r =>
  obtain⟨b0,b1,rfl⟩:=len2 (Nat.succ.inj h)
  exact⟨a,b0,b1,rfl⟩
theorem len4{α:Type}{us:List α}(h:us.length=4):∃a0 a1 a2 a3,us=[a0,a1,a2,a3]:=by
 cases us with
 |nil=>cases h
 |cons a r =>
  obtain⟨b0,b1,b2,rfl⟩:=len3 (Nat.succ.inj h)
  exact⟨a,b0,b1,b2,rfl⟩
noncomputable def QkA:Expr->Bool
 |.Starred ..=>false
 |_=>true
theorem Qir{e:Expr}{es:List Expr}{env:Env}(h:QkA e=true):starEach (e::es) env=(false,eval e env)::starEach es env:=by
 cases e <;> first|rfl|exact absurd h Uc
variable{P:Program}{w:World}{K:Frag}{mg:Str->Option Value}{base:Heap}{ca:Nat->Addr}{X:L2.Cx}
theorem Qc{e:Expr}{es:List Expr}{me:ME}{mr:MA}(ha:PE3 ca X e me)(hr:PA3 ca X es mr)(hs:QkA e=true:=by rfl):PA3 ca X (e::es) (Qa me mr):=Qa0 ha hr (Qir hs)
noncomputable def QkB:Expr->Bool
 |.ListComp ..=>false
 |.SetComp ..=>false
 |.DictComp ..=>false
 |_=>true
theorem Qly{e:Expr}{t:Option Expr}{l:Nat}{env:Env}(h:QkB e=true):swapsWith e t l env=pure false:=by
 cases e <;> first|rfl|exact absurd h Uc
theorem Qu(i:Nat){x:Str}{pos pos':Pos}{e:Expr}{me:ME}(hN:X.N.Nodup)(he:PE3 ca X e me)(hi:X.N[i]?=some x:=by rfl)(hx:L2.Loc X.env.scope x:=by first|exact Or.inl rfl|exact Or.inr rfl)(hs:QkB e=true:=by rfl)(hf:X.fn x=true\/X.env.scope.names.lookup x=some .local:=by first|exact .inl rfl|exact .inr rfl):
  PS3 ca X (.Assign [.Name x pos'] e pos) (mAsg (gSet i) me):=QnY i hN he hi hx (Qly hs) hf
end
end L3
namespace L3
open PySem
noncomputable def maxZ:List Int->Option Int
 |[]=>none
 |i::r=>(match maxZ r with
  |none=>some i
  |some j=>some (if i<j then j else i))
noncomputable def QfB(x:D)(g:G):Res D:=match x with
 |.tup ds=>(match QdS ds with
  |some is=>(match maxZ is with
   |some i=>.ok (.int i) g
   |none=>.stuck)
  |none=>.stuck)
 |_=>.stuck
theorem Qd4:∀{is:List Int}{M:Int},maxZ is=some M->M∈is/\∀a∈is,a<=M
 |[],_,h=>by cases h
 |i::r,M,h=>by
  unfold maxZ at h
  cases hr:maxZ r with
  |none =>
   rw[hr]at h
   cases h
   cases r with
   |nil=>exact⟨UH ..,λa ha=>by rw[Ug.mp ha];exact Int.le_refl _⟩
   |cons j r' =>
    unfold maxZ at hr
    cases h2:maxZ r' with
    |none=>rw[h2]at hr;cases hr
    |some k=>rw[h2]at hr;cases hr
  |some j =>
   rw[hr]at h
   dsimp only at h
   obtain⟨q1,q2⟩:=Qd4 hr
   by_cases z:i<j
   ·rw[Uh z]at h;cases h
    exact⟨Uz _ q1,λa ha=>by
     rcases Ui.mp ha with e|e
     ·omega
     ·exact q2 a e⟩
   ·rw[Um z]at h;cases h
    exact⟨UH ..,λa ha=>by
     rcases Ui.mp ha with e|e
     ·omega
     ·have:=q2 a e;omega⟩
end L3
namespace L3
open PySem PySem.Spec PyProof.Rows L2
theorem Qg6{prog:Program}{w:World}{A:Around}{E:Value->Shared->Prop}{s:Shared}{l:Addr}{xs:Array (Int×Tok)}{Q:Value->Shared->Prop}(hh:A.handled=none)(hl:s.heap.IsTuple l (intItems xs))(hne:0<xs.size)(h:∀v h' tk,(intItems xs)[argBest (λi j=>decide (numAt xs i > numAt xs j)) (xs.size-1)]?=some v->(∀b o,s.heap.get? b=some o->h'.get? b=some o)->Q v {s with heap:=h',toks:=tk}):
  wpAny (model prog w) A (call (.builtin "max") [.ref l]) Q E s:=by
 have hlt:l<s.heap.objs.size:=by obtain⟨_,e,_⟩:=hl;exact Uk e
 refine call_max_walk (RF hl ?_)
 refine⟨_,[_,l],[_],_,_,_,_,rfl,Walks.tuple (A:=A.in1) hh _ l (UI hlt) (intItems xs),⟨⟨_,Ur _ rfl,rfl,rfl⟩,hl.push _⟩,λc hc=>?_,by simpa[intItems]using hne,CmpOf.ints_gt (numAt xs) (λ_ _=>intItems_at),λv h' tk hP hk=>?_⟩
 ·show c<(s.heap.push _).objs.size
  rw[U8]
  rcases Ui.mp hc with rfl|hc
  ·exact U4 _
  ·rcases Ui.mp hc with rfl|hc
   ·exact Nat.lt_succ_of_lt hlt
   ·cases hc
 ·refine h v h' tk (by simpa[intItems]using hP) λb o e=>hk b o (λhm=>?_) (Ub _ e)
  rcases Ui.mp hm with e1|hm
  ·exact absurd (e1 ▸ Uk e) (Tl _)
  ·cases hm
section
variable{X:Cx}{ca:Nat->Addr}{e:Expr}{me:ME}{pos p:Pos}
theorem QeY{K:Frag}{μ:List Addr}{H:Hp}:∀{vs:List V}{ds:List D}{ns:List Int},Dens K μ H vs ds->QdS ds=some ns->vs=ns.map V.int
 |_,_,ns,.nil,h=>by cases h;rfl
 |_,_,ns,.cons (ds:=ds) h1 h2,h=>by
  cases h1 with
  |int i =>
   unfold QdS at h
   cases hr:QdS ds with
   |none=>rw[hr]at h;cases h
   |some ms=>rw[hr]at h;cases h;rw[UY,QeY h2 hr]
  |_=>cases h
theorem intsAre_of:∀{ns:List Int}{us:List Value},Vals (ns.map V.int) us->IntsAre us ns
 |[],_,h=>by cases h;exact .nil
 |n::ns,_,h=>by
  cases h with
  |cons h1 h2 =>
   obtain⟨t,rfl⟩:=h1
   exact .cons n t (intsAre_of h2)
theorem Qis(hc:X.calm=true):CallR X (.builtin "max") (λxs H Q=>∃(a:Addr)(ns:List Int)(M:Int),xs=[.ref a]/\SqT X.K H a (ns.map V.int)/\maxZ ns=some M/\Q (.int M) H):=by
 intro pins s σ H xs us Q I rv h
 obtain⟨a,ns,M,rfl,hq,hM,q⟩:=h
 obtain⟨u,rfl,ru⟩:=rv.one
 cases ru
 obtain⟨its,r,pl,hz⟩:=I.tuple hq
 have hi:=intsAre_of r
 obtain⟨m1,m2⟩:=Qd4 hM
 obtain⟨xs,hxs⟩:=hi.allInts.items
 have hl:=pl
 rw[hxs]at hl
 have hns:numsOf (intItems xs).toList=ns:=by rw[<-hxs];exact hi.numsOf
 rw[nums_intItems]at hns
 have hlen:xs.size=ns.length:=by rw[<-hns,Ud,Ti]
 have hsz:0<xs.size:=by rw[hlen];exact List.length_pos_of_mem m1
 refine Qg6 (I.ok.hd hc) hl hsz λv h' tk hv hk=>?_
 obtain⟨t,rfl⟩:=intItems_at hv
 obtain⟨h1,h2⟩:=argBest_gt (numAt xs) (xs.size-1)
 have e:numAt xs (argBest (λi j=>decide (numAt xs i > numAt xs j)) (xs.size-1))=M:=by
  have b1:numAt xs (argBest (λi j=>decide (numAt xs i > numAt xs j)) (xs.size-1))∈ns:=by
   rw[<-hns,numAt_eq];exact getD_mem (by rw[Ud,Ti];omega)
  have b2:numAt xs (argBest (λi j=>decide (numAt xs i > numAt xs j)) (xs.size-1))>=M:=by
   rw[<-hns]at m1
   obtain⟨j,hj,e⟩:=mem_getD m1
   rw[Ud,Ti]at hj
   rw[<-e,<-numAt_eq];exact h2 j (by omega)
  have b3:=m2 _ b1
  omega
 exact⟨.int M,H,I.kept hk,⟨t,by rw[<-e]⟩,q⟩
theorem Qm9(hc:X.calm=true)(hm:X.mg "max" = none)(he:PE3 ca X e me)(hg:Gl X "max":=by rfl)(hs:starEach [e] X.env=[(false,eval e X.env)]:=by rfl)(hpl:(backTo pos (starEach [] X.env)).any (·.1)=false:=by rfl):
  PE3 ca X (.Call (.Name "max" p) [e] [] pos) (mOp1 QfB me) :=
 Qlm (r:=λxs H Q=>∃(a:Addr)(ns:List Int)(M:Int),xs=[V.ref a]/\SqT X.K H a (ns.map V.int)/\maxZ ns=some M/\Q (.int M) H) (λpn Φ=>Qis (X:=xat X ca pn Φ) hc) hm boot_max (λΦ σ H μ g y d Q r q pp=>by
  unfold QfB at pp
  cases q with
  |tup ht hs =>
   dsimp only at pp
   rename_i t vs ds
   cases hi:QdS ds with
   |none=>rw[hi]at pp;exact pp.elim
   |some is =>
    rw[hi]at pp
    dsimp only at pp
    cases hz:maxZ is with
    |none=>rw[hz]at pp;exact pp.elim
    |some M =>
     rw[hz]at pp
     have ew:=QeY hs hi
     subst ew
     exact⟨t,is,M,rfl,ht,hz,pp _ H μ .refl r (.int _)⟩
  |_=>exact pp.elim) he hg (by decide) (by decide) hs hpl
end
end L3
namespace L2
open PySem PySem.Spec PyProof.Rows
section
variable{κ:Type}[DecidableEq κ]
noncomputable def valV(kvs:List (κ×V))(k:κ):Option V:=(kvs.find? λkv=>decide (kv.1=k)).map (·.2)
noncomputable def putK(kvs:List (κ×V))(k:κ)(v:V):List (κ×V) :=
 if (kvs.any λkv=>decide (kv.1=k))=true then kvs.map (λkv=>if kv.1=k then (kv.1,v) else kv) else kvs++[(k,v)]
noncomputable def QjK(kvs:List (κ×V))(k:κ):List (κ×V):=kvs.filter λkv=>decide (kv.1≠k)
theorem QjL{p:κ×V}{r:List (κ×V)}{k:κ}(e:p.1=k):valV (p::r) k=some p.2:=by simp[valV,Rq,e]
theorem QjM{p:κ×V}{r:List (κ×V)}{k:κ}(e:¬p.1=k):valV (p::r) k=valV r k:=by simp[valV,Rq,e]
theorem RelO.getD{o:Option V}{u:Option Value}{d:V}{d':Value}(r:RelO o u)(rd:RelV d d'):RelV (o.getD d) (u.getD d'):=by
 cases o with
 |none=>cases u with
  |none=>exact rd
  |some _=>exact(show False from r).elim
 |some _=>cases u with
  |none=>exact(show False from r).elim
  |some _=>exact r
theorem KV.any{kvs:List (κ×V)}{vs:List (κ×Value)}(r:KV kvs vs)(k:κ):(kvs.any λkv=>decide (kv.1=k))=vs.any λkv=>decide (kv.1=k):=by
 unfold KV at r
 induction r with
 |nil=>rfl
 |cons h t ih=>rw[Tv,Tv,ih,h.1]
theorem KV.repl{kvs:List (κ×V)}{vs:List (κ×Value)}(r:KV kvs vs)(k:κ){y:V}{u:Value}(ry:RelV y u):
  KV (kvs.map λkv=>if kv.1=k then (kv.1,y) else kv) (vs.map λkv=>if kv.1=k then (kv.1,u) else kv):=by
 unfold KV at r ⊢
 induction r with
 |nil=>exact .nil
 |@cons p q ps qs h t ih =>
  rw[UY,UY]
  refine .cons ?_ ih
  obtain⟨h1,h2⟩:=h
  by_cases e:p.1=k
  ·rw[Uh e,Uh (h1.symm.trans e)];exact⟨h1,ry⟩
  ·rw[Um e,Um (λz=>e (h1.trans z))];exact⟨h1,h2⟩
theorem KV.put{kvs:List (κ×V)}{vs:List (κ×Value)}(r:KV kvs vs)(k:κ){y:V}{u:Value}(ry:RelV y u):KV (putK kvs k y) (stored vs k u):=by
 unfold putK stored
 rw[r.any k]
 by_cases e:(vs.any λkv=>decide (kv.1=k))=true
 ·rw[Uh e,Uh e];exact r.repl k ry
 ·rw[Um e,Um e];exact Paired.snoc r ⟨rfl,ry⟩
theorem KV.drop{kvs:List (κ×V)}{vs:List (κ×Value)}(r:KV kvs vs)(k:κ):KV (QjK kvs k) (without vs k):=by
 unfold KV at r ⊢
 unfold QjK without
 induction r with
 |nil=>exact .nil
 |@cons p q ps qs h t ih =>
  obtain⟨h1,h2⟩:=h
  rw[Rc,Rc]
  by_cases e:p.1=k
  ·have a:¬decide (p.1≠k)=true:=by simp[e]
   have b:¬decide (q.1≠k)=true:=by simp[h1.symm.trans e]
   rw[Um a,Um b];exact ih
  ·have e':¬q.1=k:=λz=>e (h1.trans z)
   have a:decide (p.1≠k)=true:=by simp[e]
   have b:decide (q.1≠k)=true:=by simp[e']
   rw[Uh a,Uh b];exact .cons ⟨h1,h2⟩ ih
theorem KV.length{kvs:List (κ×V)}{vs:List (κ×Value)}(r:KV kvs vs):kvs.length=vs.length:=Paired.length r
end
section
variable{P:Program}{w:World}{H:Hp}{h:Heap}{a:Addr}
end
section
variable{X:Cx}{pins:List (Addr×Obj)}{σ:St}{H:Hp}{s:Shared}{a:Addr}{y v:V}{u r:Value}{o:Option V}{A:Around}{E:Value->Shared->Prop}
end
section
variable{X:Cx}{pins:List (Addr×Obj)}{σ:St}{H:Hp}{s:Shared}{a:Addr}{kvs:List (Key×V)}{k:Key}{u:Value}{A:Around}{E:Value->Shared->Prop}
end
section
variable{X:Cx}{o i e value:Expr}{pos pos' tpos:Pos}{td ty tv:TE}
end
section
variable{X:Cx}{pos:Pos}
end
section
variable{X:Cx}{pins:List (Addr×Obj)}{σ:St}{H:Hp}{s:Shared}{a:Addr}{y d:V}{u r:Value}{o:Option V}{A:Around}{E:Value->Shared->Prop}
end
section
variable{X:Cx}{o e f:Expr}{apos cpos:Pos}{td ty tx:TE}
end
section
variable{X:Cx}{pins:List (Addr×Obj)}{σ:St}{H:Hp}{s:Shared}{a:Addr}{kvs:List (Key×V)}{A:Around}{E:Value->Shared->Prop}
end
section
variable{X:Cx}{pins:List (Addr×Obj)}{σ:St}{H:Hp}{s:Shared}{a:Addr}{y:V}{u:Value}{A:Around}{E:Value->Shared->Prop}
end
end L2
namespace L3
open PySem
noncomputable abbrev DK:=Sum Int Str
noncomputable def dGet(ks:List (DK×D))(k:DK):Option D:=(ks.find? λp=>decide (p.1=k)).map (·.2)
noncomputable def dPut(ks:List (DK×D))(k:DK)(v:D):List (DK×D):=if (ks.any λp=>decide (p.1=k))=true then ks.map λp=>if p.1=k then (p.1,v) else p else ks++[(k,v)]
noncomputable def Qna(ks:List (DK×D))(k:DK):List (DK×D):=ks.filter λp=>decide (p.1≠k)
end L3
namespace L3
open PySem PySem.Spec PyProof.Rows L2
section
variable{K:Frag}{μ:List Addr}{H:Hp}
theorem KRel.get{kv:List (Key×V)}{ks:List (Key×D)}(r:KRel K μ H kv ks)(k:Key):(valV kv k=none/\dGet ks k=none)\/∃v d,valV kv k=some v/\dGet ks k=some d/\Den K μ H v d:=by
 unfold KRel at r
 induction r with
 |nil=>exact .inl ⟨rfl,rfl⟩
 |@cons p q ps qs h t ih =>
  obtain⟨h1,h2⟩:=h
  by_cases e:p.1=k
  ·refine .inr ⟨p.2,q.2,QjL e,?_,h2⟩
   unfold dGet;rw[Rq,Uy (h1.symm.trans e)];rfl
  ·have e':dGet (q::qs) k=dGet qs k:=by
    unfold dGet;rw[Rq,Uo (λz=>e (h1.trans z))]
   rw[QjM e,e'];exact ih
theorem KRel.put{kv:List (Key×V)}{ks:List (Key×D)}{v:V}{d:D}(r:KRel K μ H kv ks)(k:Key)(h:Den K μ H v d):KRel K μ H (putK kv k v) (dPut ks k d):=by
 have ha:(kv.any λp=>decide (p.1=k))=ks.any λp=>decide (p.1=k):=by
  unfold KRel at r
  induction r with
  |nil=>rfl
  |cons h t ih=>rw[Tv,Tv,ih,h.1]
 unfold putK dPut
 rw[ha]
 by_cases e:(ks.any λp=>decide (p.1=k))=true
 ·rw[Uh e,Uh e]
  clear ha e
  unfold KRel at r ⊢
  induction r with
  |nil=>exact .nil
  |@cons p q ps qs hp t ih =>
   rw[UY,UY]
   refine .cons ?_ ih
   obtain⟨h1,h2⟩:=hp
   by_cases e:p.1=k
   ·rw[Uh e,Uh (h1.symm.trans e)];exact⟨h1,h⟩
   ·rw[Um e,Um (λz=>e (h1.trans z))];exact⟨h1,h2⟩
 ·rw[Um e,Um e];exact Paired.snoc r ⟨rfl,h⟩
theorem KRel.drop{kv:List (Key×V)}{ks:List (Key×D)}(r:KRel K μ H kv ks)(k:Key):KRel K μ H (QjK kv k) (Qna ks k):=by
 unfold KRel at r ⊢
 unfold QjK Qna
 induction r with
 |nil=>exact .nil
 |@cons p q ps qs h t ih =>
  obtain⟨h1,h2⟩:=h
  rw[Rc,Rc,<-h1]
  by_cases e:decide (p.1≠k)=true
  ·rw[Uh e,Uh e];exact .cons ⟨h1,h2⟩ ih
  ·rw[Um e,Um e];exact ih
end
section
variable{X:Cx}
end
section
variable{X:Cx}{ca:Nat->Addr}{o e f:Expr}{mo me mf:ME}{p pos apos:Pos}
end
end L3
namespace L3
open PySem
noncomputable def QjN(x y:D)(g:G):Res D:=match x,y with
 |.int i,.int j=>.ok (.int (if j<i then j else i)) g
 |_,_=>.stuck
noncomputable def QjO(x y:D)(g:G):Res D:=match x,y with
 |.int i,.int j=>.ok (.int (if i<j then j else i)) g
 |_,_=>.stuck
noncomputable def QcF(o e:ME):ME:=λσ g=>(o σ g).bind λx g1=>match x with
 |.ref n=>(match g1[n]? with
  |some (.lst _)=>(e σ g1).bind λy g2=>(match y with
   |.ref m=>(match g2[n]?,g2[m]? with
    |some (.lst ds),some (.lst es)=>if n≠m/\ds.length+es.length<=SZ then .ok .non (g2.set n (.lst (ds++es))) else .stuck
    |_,_=>.stuck)
   |.tup es=>(match g2[n]? with
    |some (.lst ds)=>if ds.length+es.length<=SZ then .ok .non (g2.set n (.lst (ds++es))) else .stuck
    |_=>.stuck)
   |_=>.stuck)
  |_=>.stuck)
 |_=>.stuck
end L3
namespace L3
open PySem PySem.Spec PyProof.Rows L2
section
variable{X:Cx}
end
section
variable{X:Cx}{ca:Nat->Addr}{a b e f o:Expr}{ma mb me mf mo:ME}{p pos apos:Pos}
theorem KRel.keys{K:Frag}{μ:List Addr}{H:Hp}{kv:List (Key×V)}{ks:List (Key×D)}(r:KRel K μ H kv ks):kv.map (·.1)=ks.map (·.1):=by
 unfold KRel at r
 induction r with
 |nil=>rfl
 |cons h t ih=>rw[UY,UY,ih,h.1]
theorem QkC{x:Str}{id:String}{r:List V->Hp->VK->Prop}{h:D->D->G->Res D}(hc:∀pn Φ,CallR (xat X ca pn Φ) (.builtin id) r)(hm:X.mg x=none)(hv:bootBuiltins x=some (.builtin id))(hp:∀(Φ:XS) (σ:L2.St) (H:Hp) (μ:List Addr) (g:G) (y z:V) (d c:D) (Q:VK),GRep X.K ca μ H g->Den X.K μ H y d->Den X.K μ H z c->Post X.K ca Φ σ Q H μ (h d c g)->r [y,z] H Q)(he:PE3 ca X e me)(hf:PE3 ca X f mf)(hg:Gl X x)(hn:x ≠ "__name__")(hdb:(x == ("__debug__" : Str))=false)(hs:starEach [e,f] X.env=(false,eval e X.env)::starEach [f] X.env)(hs2:starEach [f] X.env=(false,eval f X.env)::starEach [] X.env)(hpl:(backTo pos (starEach [f] X.env)).any (·.1)=false):PE3 ca X (.Call (.Name x p) [e,f] [] pos) (mOp2 h me mf) :=
 λpn Φ=>ZP (QaM (X:=xat X ca pn Φ) (hc pn Φ) hg hm hv (Qa0 he (Qa0 hf Qf hs2) hs pn Φ) hn hdb hs hpl) λσ H Q hQ=>by
  obtain⟨σ3,g,μ,R,q⟩:=hQ
  refine⟨σ3,g,μ,R,?_⟩
  unfold mOp2 at q
  unfold Qa mNil
  cases hm:me σ3 g with
  |raise _ _=>rw[hm]at q;exact q
  |stuck=>rw[hm]at q;exact q.elim
  |ok d g1 =>
   rw[hm,Res.bind_ok]at q
   rw[Res.bind_ok]
   cases hm2:mf σ3 g1 with
   |raise _ _=>rw[hm2]at q;exact q
   |stuck=>rw[hm2]at q;exact q.elim
   |ok c g2 =>
    rw[hm2,Res.bind_ok]at q
    rw[Res.bind_ok,Res.bind_ok,Res.bind_ok]
    intro vs H1 μ1 e1 r1 q1
    cases q1 with
    |cons h1 h2=>cases h2 with
     |cons h2 h3 =>
      cases h3
      exact hp Φ σ H1 μ1 g2 _ _ d c Q r1 h1 h2 (q.go e1)
theorem Qnb(hc:X.calm=true)(hm:X.mg "min" = none)(he:PE3 ca X e me)(hf:PE3 ca X f mf)(hg:Gl X "min":=by rfl)(hs:starEach [e,f] X.env=(false,eval e X.env)::starEach [f] X.env:=by rfl)(hs2:starEach [f] X.env=(false,eval f X.env)::starEach [] X.env:=by rfl)(hpl:(backTo pos (starEach [f] X.env)).any (·.1)=false:=by rfl):
  PE3 ca X (.Call (.Name "min" p) [e,f] [] pos) (mOp2 QjN me mf) :=
 QkC (λpn Φ=>QhE (X:=xat X ca pn Φ) hc) hm boot_min (λΦ σ H μ g y z d c Q r q1 q2 pp=>by
  unfold QjN at pp
  cases q1 with
  |int i =>
   cases q2 with
   |int j=>exact⟨i,j,rfl,pp _ H μ .refl r (.int _)⟩
   |_=>exact pp.elim
  |_=>cases q2 <;> exact pp.elim) he hf hg (by decide) (by decide) hs hs2 hpl
theorem Qnc(hc:X.calm=true)(hm:X.mg "max" = none)(he:PE3 ca X e me)(hf:PE3 ca X f mf)(hg:Gl X "max":=by rfl)(hs:starEach [e,f] X.env=(false,eval e X.env)::starEach [f] X.env:=by rfl)(hs2:starEach [f] X.env=(false,eval f X.env)::starEach [] X.env:=by rfl)(hpl:(backTo pos (starEach [f] X.env)).any (·.1)=false:=by rfl):
  PE3 ca X (.Call (.Name "max" p) [e,f] [] pos) (mOp2 QjO me mf) :=
 QkC (λpn Φ=>QhD (X:=xat X ca pn Φ) hc) hm boot_max (λΦ σ H μ g y z d c Q r q1 q2 pp=>by
  unfold QjO at pp
  cases q1 with
  |int i =>
   cases q2 with
   |int j=>exact⟨i,j,rfl,pp _ H μ .refl r (.int _)⟩
   |_=>exact pp.elim
  |_=>cases q2 <;> exact pp.elim) he hf hg (by decide) (by decide) hs hs2 hpl
theorem Qgw(ho:PE3 ca X o mo)(he:PE3 ca X e me)(hbase:attributeBase o "extend" X.env (eval o X.env)=eval o X.env:=by rfl)(hfew:((backTo pos (starEach [e] X.env)).all (λx=>!x.1) && (backToKw pos (keywordEach [] X.env)).all (λx=>x.1.isSome) && decide ([e].length+([]:List Keyword).length+(if ([]:List Keyword).isEmpty then 0 else 1)<30))=true:=by rfl)(hline:(apos.endLine == pos.line)=true:=by rfl)(hs:starEach [e] X.env=(false,eval e X.env)::starEach [] X.env:=by rfl)(hplain:(backTo pos (starEach [] X.env)).any (·.1)=false:=by rfl):
  PE3 ca X (.Call (.Attribute o "extend" apos) [e] [] pos) (QcF mo me) :=
 λpn Φ=>ZP (QmJ (X:=xat X ca pn Φ) RS PySem.F.slot_list_extend PySem.F.type_list_extend Qg0 (ho pn Φ) (Qa0 he Qf hs pn Φ) hbase hfew hline hs hplain) λσ H Q ⟨σ3,g,μ,R,q⟩=>ZO (Qba R q) λx H1 hQ=>by
  obtain⟨d,g1,μ1,e1,R1,q1,p1⟩:=hQ
  cases q1 with
  |@ref n t hn =>
   dsimp only at p1
   cases hgn:g1[n]? with
   |none=>rw[hgn]at p1;exact p1.elim
   |some ob =>
    rw[hgn]at p1
    obtain⟨t',ht',orp⟩:=R1.g.addr hgn
    rw[hn]at ht';cases ht'
    cases ob with
    |lst ds0 =>
     obtain⟨vs0,hH0,_⟩:=orp
     dsimp only at p1
     refine⟨.inl ⟨rfl,_,.of hH0⟩,σ3,g1,μ1,R1,?_⟩
     unfold Qa mNil
     cases hm:me σ3 g1 with
     |raise _ _=>rw[hm]at p1;exact p1
     |stuck=>rw[hm]at p1;exact p1.elim
     |ok y g2 =>
      rw[hm,Res.bind_ok]at p1
      rw[Res.bind_ok,Res.bind_ok]
      intro vs H2 μ2 e2 r2 q2
      cases q2 with
      |cons h1 h2 =>
       cases h2
       cases h1 with
       |@ref m c hmm =>
        dsimp only at p1
        cases hg2:g2[n]? with
        |none=>rw[hg2]at p1;exact p1.elim
        |some ob2 =>
         cases hg3:g2[m]? with
         |none=>rw[hg2,hg3]at p1;cases ob2 <;> exact p1.elim
         |some ob3 =>
          rw[hg2,hg3]at p1
          obtain⟨t',ht',orp⟩:=r2.addr hg2
          rw[e2.at hn]at ht';cases ht'
          obtain⟨c',hc',orp3⟩:=r2.addr hg3
          rw[hmm]at hc';cases hc'
          cases ob2 with
          |lst ds =>
           cases ob3 with
           |lst es =>
            obtain⟨ws,hH,qs⟩:=orp
            obtain⟨zs,hH3,qz⟩:=orp3
            dsimp only at p1
            by_cases z:n≠m/\ds.length+es.length<=SZ
            ·rw[Uh z]at p1
             have ex:Ext X.K μ2 H2 μ2 (upd H2 t (.lst (ws++zs))):=QbP hH (by intro _ z;cases z) (by intro _ _ z;cases z)
             refine .inl ⟨t,c,ws,zs,rfl,rfl,hH,hH3,by rw[qs.length,qz.length];exact Uw z.2 Jt,p1 _ _ μ2 (e2.trans ex) ?_ .non⟩
             exact r2.set (e2.at hn) hH (by intro _ z;cases z) (by intro _ _ z;cases z) ⟨_,QN,(qs.mono ex).append (qz.mono ex)⟩
            ·rw[Um z]at p1;exact p1.elim
           |_=>exact p1.elim
          |_=>cases ob3 <;> exact p1.elim
       |@tup c zs es hc qz =>
        dsimp only at p1
        cases hg2:g2[n]? with
        |none=>rw[hg2]at p1;exact p1.elim
        |some ob2 =>
         rw[hg2]at p1
         obtain⟨t',ht',orp⟩:=r2.addr hg2
         rw[e2.at hn]at ht';cases ht'
         cases ob2 with
         |lst ds =>
          obtain⟨ws,hH,qs⟩:=orp
          dsimp only at p1
          by_cases z:ds.length+es.length<=SZ
          ·rw[Uh z]at p1
           have ex:Ext X.K μ2 H2 μ2 (upd H2 t (.lst (ws++zs))):=QbP hH (by intro _ z;cases z) (by intro _ _ z;cases z)
           refine .inr ⟨t,c,ws,zs,rfl,rfl,hH,hc,by rw[qs.length,qz.length];exact Uw z Jt,p1 _ _ μ2 (e2.trans ex) ?_ .non⟩
           exact r2.set (e2.at hn) hH (by intro _ z;cases z) (by intro _ _ z;cases z) ⟨_,QN,(qs.mono ex).append (qz.mono ex)⟩
          ·rw[Um z]at p1;exact p1.elim
         |_=>exact p1.elim
       |_=>exact p1.elim
    |_=>exact p1.elim
  |_=>exact p1.elim
end
end L3
namespace L3
open PySem
noncomputable def Qdz(x:D)(g:G):Res D:=match tyOf g x with
 |some t=>.ok (.bl (tyLe t .list || tyLe t .tuple)) g
 |none=>.stuck
end L3
namespace L3
open PySem PySem.Spec PyProof.Rows L2
section
variable{X:Cx}{ca:Nat->Addr}{e:Expr}{me:ME}{pos p p2 tp:Pos}{all cs:List Nat}
theorem Qao(K:Frag)(t:Ty):kitAny K (.type t.name) [.type "list",.type "tuple"]=some (tyLe t .list || tyLe t .tuple):=by
 unfold kitAny
 rw[show Value.type "list" = .type Ty.list.name from rfl,Jw]
 cases tyLe t .list with
 |true=>rfl
 |false =>
  dsimp only
  unfold kitAny
  rw[show Value.type "tuple" = .type Ty.tuple.name from rfl,Jw]
  cases tyLe t .tuple <;> rfl
theorem Qlz{h:Heap}{a:Addr}{xs:Array Value}(p:IsTup h a xs):∃dd n sl,h.get? a=some ⟨.type "tuple",dd,.seq xs n,sl⟩:=by
 obtain⟨⟨cls,dd,data,sl⟩,h1,h2,n,h3⟩:=p
 simp only at h2 h3
 subst h2 h3
 exact⟨dd,n,sl,h1⟩
theorem Qg7:CallR X (.builtin "isinstance") (λxs H Q=>∃x q g μ d t,xs=[x,.ref q]/\SqT X.K H q [.ty "list",.ty "tuple"]/\GRep X.K ca μ H g/\Den X.K μ H x d/\tyOf g d=some t/\Q (.bl (tyLe t .list || tyLe t .tuple)) H):=by
 intro pins s σ H xs us Q I rv h
 obtain⟨x,q,g,μ,d,t,rfl,hq,r,qd,ht,qq⟩:=h
 obtain⟨u,u2,rfl,ru,ru2⟩:=rv.two
 cases ru2
 obtain⟨its,r1,p1,_⟩:=I.tuple hq
 obtain⟨w1,w2,rfl,a1,a2⟩:=r1.two
 cases a1;cases a2
 obtain⟨dd,n,sl,ho⟩:=Qlz p1
 have fin:∀tk,EP X pins σ Q (.bool (tyLe t .list || tyLe t .tuple)) {s with toks:=tk}:=λtk=>⟨.bl _,H,I.tok tk,rfl,qq⟩
 cases qd with
 |non=>cases ht;cases (show u=Value.none from ru);exact Tf kitx_none I.kIn True.intro ho (Qao X.K .non) (λz=>nomatch z) fin
 |bl y=>cases ht;cases (show u=Value.bool y from ru);exact Tf kitx_bool I.kIn True.intro ho (Qao X.K .bool) (λz=>nomatch z) fin
 |int y=>cases ht;obtain⟨t,q⟩:=(show ∃t,u=Value.int y t from ru);cases q;exact Tf kitx_int I.kIn True.intro ho (Qao X.K .int) (λz=>nomatch z) fin
 |str y=>cases ht;obtain⟨t,q⟩:=(show ∃t,u=Value.str y t from ru);cases q;exact Tf kitx_str I.kIn True.intro ho (Qao X.K .str) (λz=>nomatch z) fin
 |@tup a vs ds hq hs =>
  cases ht
  cases ru
  obtain⟨its,_,⟨o,h1,h2,_⟩,_⟩:=I.tuple hq
  exact Tf RD I.kIn ⟨o,h1,h2⟩ ho (Qao X.K .tuple) (λz=>nomatch z) fin
 |@fl a vs ds hq hs =>
  cases ht
  cases ru
  obtain⟨its,_,p,_⟩:=I.list hq.sq
  obtain⟨o,h1,h2,_⟩:=p.isList
  exact Tf TF I.kIn ⟨o,h1,h2⟩ ho (Qao X.K .list) (λz=>nomatch z) fin
 |@ref n a hn =>
  unfold tyOf at ht
  dsimp only at ht
  cases hg:g[n]? with
  |none=>rw[hg]at ht;cases ht
  |some o =>
   rw[hg]at ht
   obtain⟨a',ha',ob⟩:=r.addr hg
   rw[hn]at ha';cases ha'
   cases o with
   |lst ds =>
    cases ht
    obtain⟨vs,hH,_⟩:=ob
    cases ru
    obtain⟨_,_,n,_,h1⟩:=(show ObjOk X.prog X.w H s.heap a (.lst vs) from I.hok a _ hH)
    exact Tf TF I.kIn ⟨_,h1,rfl⟩ ho (Qao X.K .list) (λz=>nomatch z) fin
   |dct ks =>
    cases ht
    obtain⟨kv,hH,_⟩:=ob
    cases ru
    obtain⟨_,_,vs,_,p⟩:=(show ObjOk X.prog X.w H s.heap a (.dK kv) from I.hok a _ hH)
    obtain⟨o,es,ep,h1,h2,_⟩:=p
    exact Tf RK I.kIn ⟨o,h1,h2.1⟩ ho (Qao X.K .dict) (λz=>nomatch z) fin
   |ins _ _=>cases ht
   |exc _=>cases ht
theorem QlA{k:Nat}{p3:Pos}(hi:X.mg "isinstance" = none)(hl:X.mg "list" = none)(ht:X.mg "tuple" = none)(he:PE3 ca X e me)(hgi:Gl X "isinstance":=by rfl)(hgl:Gl X "list":=by rfl)(hgt:Gl X "tuple":=by rfl)(hs:starEach [e,.Tuple [.Name "list" p2,.Name "tuple" p3] k tp] X.env=(false,eval e X.env)::starEach [.Tuple [.Name "list" p2,.Name "tuple" p3] k tp] X.env:=by rfl)(hs2:starEach [.Tuple [.Name "list" p2,.Name "tuple" p3] k tp] X.env=(false,eval (.Tuple [.Name "list" p2,.Name "tuple" p3] k tp) X.env)::starEach [] X.env:=by rfl)(hs3:starEach [.Name "list" p2,.Name "tuple" p3] X.env=(false,eval (.Name "list" p2) X.env)::starEach [.Name "tuple" p3] X.env:=by rfl)(hs4:starEach [.Name "tuple" p3] X.env=(false,eval (.Name "tuple" p3) X.env)::starEach [] X.env:=by rfl)(hpl:(backTo pos (starEach [.Tuple [.Name "list" p2,.Name "tuple" p3] k tp] X.env)).any (·.1)=false:=by rfl):
  PE3 ca X (.Call (.Name "isinstance" p) [e,.Tuple [.Name "list" p2,.Name "tuple" p3] k tp] [] pos) (mOp1 Qdz me) :=
 λpn Φ=>ZP (QaM (X:=xat X ca pn Φ) (Qg7 (ca:=ca)) hgi hi Ro (Y2 (X:=xat X ca pn Φ) (he pn Φ) (Y2 (X:=xat X ca pn Φ) (Qkn (X:=xat X ca pn Φ) (Y2 (X:=xat X ca pn Φ) (QdP (X:=xat X ca pn Φ) (v:=.ty "list") hgl hl boot_list rfl (by decide) (by decide)) (Y2 (X:=xat X ca pn Φ) (QdP (X:=xat X ca pn Φ) (v:=.ty "tuple") hgt ht boot_tuple rfl (by decide) (by decide)) Qdp hs4) hs3)) Qdp hs2) hs) (by decide) (by decide) hs hpl) λσ H Q ⟨σ3,g,μ,R,q⟩ =>
  ZO (Qba R q) λy H1 hQ=>by
   obtain⟨d,g1,μ1,e1,R1,q1,p1⟩:=hQ
   unfold Qdz at p1
   cases ht:tyOf g1 d with
   |none=>rw[ht]at p1;exact p1.elim
   |some t =>
    rw[ht]at p1
    exact⟨Uw (by decide:2<=SZ) Jt,λq hq=>⟨y,q,g1,μ1,d,t,rfl,.of QN,R1.g.new hq,q1.mono (Zy hq),ht,p1 _ _ μ1 (Zy hq) (R1.g.new hq) (.bl _)⟩⟩
end
noncomputable def datB(K:Frag):Nat->Value->D->Bool
 |0,_,_=>false
 |f+1,u,d=>match u,d with
  |.none,.non=>true
  |.int i _,.int j=>i == j
  |.str s _,.str z=>s == z
  |.ref a,.tup ds=>(match K.lookup a with
   |some ⟨.type t,_,.seq its _,_⟩=>t == "tuple" && decide (its.size<=63) && decide (its.toList.length=ds.length) && (its.toList.zip ds).all λp=>datB K f p.1 p.2
   |_=>false)
  |_,_=>false
theorem Qit{K:Frag}:∀{us:List Value}{ds:List D},us.length=ds.length->(∀p∈us.zip ds,∃v,RelV v p.1/\∀μ H,Den K μ H v p.2)->∃vs,Vals vs us/\∀μ H,Dens K μ H vs ds
 |[],[],_,_=>⟨[],.nil,λ_ _=>.nil⟩
 |[],_::_,h,_=>nomatch h
 |_::_,[],h,_=>nomatch h
 |u::us,d::ds,h,k=>by
  obtain⟨v,r,q⟩:=k (u,d) (by simp)
  obtain⟨vs,rs,qs⟩:=Qit (us:=us) (ds:=ds) (by simpa using h) λp hp=>k p (by simp[hp])
  exact⟨v::vs,.cons r rs,λμ H=>.cons (q μ H) (qs μ H)⟩
theorem Qgx{K:Frag}:∀(f:Nat)(u:Value)(d:D),datB K f u d=true->∃v,RelV v u/\∀μ H,Den K μ H v d
 |0,_,_,h=>nomatch h
 |f+1,u,d,h=>by
  unfold datB at h
  split at h
  ·exact⟨.non,rfl,λ_ _=>.non⟩
  ·rename_i i t j
   have e:i=j:=U0.mp h
   subst e
   exact⟨.int i,⟨t,rfl⟩,λ_ _=>.int i⟩
  ·rename_i i t j
   have e:i=j:=U0.mp h
   subst e
   exact⟨.str i,⟨t,rfl⟩,λ_ _=>.str i⟩
  ·rename_i a ds
   split at h
   ·rename_i t dd its n sl hk
    simp only[Uu,U0,TJ,Us]at h
    obtain⟨⟨⟨h1,h2⟩,h3⟩,h4⟩:=h
    subst h1
    obtain⟨vs,rs,qs⟩:=Qit h3 λp hp=>Qgx f p.1 p.2 (h4 p hp)
    exact⟨.ref a,rfl,λμ H=>.tup (.inr ⟨_,its,n,hk,rfl,rfl,Uw h2 (by rw[Rh];decide),rs⟩) (qs μ H)⟩
   ·cases h
  ·cases h
theorem QfC{X:Cx}{ca:Nat->Addr}{pos:Pos}{x:Str}{d:D}(h:∃u v,X.mg x=some u/\RelV v u/\∀μ H,Den X.K μ H v d)(hg:Gl X x:=by rfl)(hd:(x == ("__debug__" : Str))=false:=by decide):PE3 ca X (.Name x pos) (mLit d):=by
 obtain⟨u,v,hm,r,q⟩:=h
 exact λpn Φ=>ZP (Qfp (X:=xat X ca pn Φ) hg hm r hd) λ_ H _ z=>by
  obtain⟨_,_,μ,R,p⟩:=z
  exact p v H μ .refl R.g (q _ _)
end L3
namespace L3
open PySem
noncomputable def Qg8:MS:=(mRet (mAnd (mOp1 (ZS .int) (mVar 0)) (mNot (mOp1 (ZS .bool) (mVar 0)))))
noncomputable def JB:MF:=mDef 1 0 Qg8
noncomputable def Qg9:MS:=(mRet (mAnd (Qr JB (Qa (mVar 0) mNil)) (Qdr pLe pLt (mLit (.int 0)) (mVar 0) (mVar 1))))
noncomputable def QO:MF:=mDef 2 0 Qg9
noncomputable def Qcd:MS:=(mRet (mAnd (Qr JB (Qa (mVar 0) mNil)) (mOp2 pGe (mVar 0) (mLit (.int 0)))))
noncomputable def QB:MF:=mDef 1 0 Qcd
noncomputable def Qha:MS:=(mSeq (mIf (Qj (mOp2 pIs (mVar 0) (mLit .non))) (mRet (mLit (.bl true))) QA)
 (mSeq (mIf (mOrT (Ys (Qj (mOp1 (ZS .tuple) (mVar 0)))) (Qj (mOp2 pNe (mOp1 pLen (mVar 0)) (mLit (.int 3))))) (mRet (mLit (.bl false))) QA)
 (mRet (mAnd (Qr QO (Qa (mOp2 pIx (mVar 0) (mLit (.int 0))) (Qa (mVar 2) mNil))) (mAnd (mOp2 (pIn false) (mOp2 pIx (mVar 0) (mLit (.int 1))) (mOpA pTup (Qa (mLit (.str "l")) (Qa (mLit (.str "r")) mNil)))) (Qr QO (Qa (mOp2 pIx (mVar 0) (mLit (.int 2))) (Qa (mVar 1) mNil))))))))
noncomputable def YX:MF:=mDef 3 0 Qha
noncomputable def ZE:MS:=(mSeq (mIf (Qj (mOp2 pNe (mOp1 pLen (mVar 3)) (mVar 2))) (Zv 1 (Qa (mLit (.str "each state has one entry for each sign")) mNil)) QA)
 (mIf (Ys (Qj (mOp1 pAll (Yc (QX (mVar 3)) 1 [1,2] (gSet 0) ZX (Qr YX (Qa (mVar 0) (Qa (mVar 1) (Qa (mVar 2) mNil)))))))) (Zv 1 (Qa (mLit (.str "an entry is None or a tuple of a sign, a way and a state of the machine")) mNil)) QA))
noncomputable def Yj:MS:=(mSeq (mIf (Qj (mOp2 pEq (mOp1 pLen (mVar 0)) (mLit (.int 0)))) (Zv 1 (Qa (mLit (.str "a machine has at least one state")) mNil)) QA)
 (mSeq (mAsg (gSet 1) (mOp1 pLen (mVar 0)))
 (mSeq (mAsg (gSet 2) (mOp1 pLen (mOp2 pIx (mVar 0) (mLit (.int 0)))))
 (mSeq (mIf (Qj (mOp2 pEq (mVar 2) (mLit (.int 0)))) (Zv 1 (Qa (mLit (.str "a machine has at least one sign")) mNil)) QA)
 (mFor (QX (mVar 0)) (gSet 3) ZE)))))
noncomputable def Yk:MF:=mDef 1 3 Yj
noncomputable def Qa1:MS:=(mSeq (mAsg (gSet 2) (mOp1 QZ (Yc (QX (mVar 1)) 1 [] (gSet 0) ZX (mOp1 QZ (mVar 0)))))
 (mSeq (YJ (Qr Yk (Qa (mVar 2) mNil)))
 (Qci [11] "table" (mVar 0) (mVar 2))))
noncomputable def Z8:MF:=mDef 2 1 Qa1
noncomputable def QcG:MS:=(mRet (mOp1 pLen (Qa9 [11] "table" (mVar 0))))
noncomputable def JQ:MF:=mDef 1 0 QcG
noncomputable def QdA:MS:=(mRet (mOp1 pLen (mOp2 pIx (Qa9 [11] "table" (mVar 0)) (mLit (.int 0)))))
noncomputable def QaO:MF:=mDef 1 0 QdA
noncomputable def Qiu:MS:=(mRet (mAnd (mOp1 (ZS .tuple) (mVar 0)) (mAnd (mOp2 pGt (mOp1 pLen (mVar 0)) (mLit (.int 0))) (mOp1 pAll (Yc (QX (mVar 0)) 1 [] (gSet 0) ZX (Qr QB (Qa (mVar 0) mNil)))))))
noncomputable def JC:MF:=mDef 1 0 Qiu
noncomputable def YA:MS:=(mSeq (mIf (Ys (Qj (mOp1 (ZS .tuple) (mVar 0)))) (mRet (mLit (.bl false))) QA)
 (mSeq (mIf (Qj (mOp2 pEq (mOp1 pLen (mVar 0)) (mLit (.int 2)))) (mRet (mAnd (mOp2 pEq (mOp2 pIx (mVar 0) (mLit (.int 0))) (mLit (.str "one"))) (Qr QB (Qa (mOp2 pIx (mVar 0) (mLit (.int 1))) mNil)))) QA)
 (mRet (mAnd (mOp2 pEq (mOp1 pLen (mVar 0)) (mLit (.int 3))) (mAnd (mOp2 pEq (mOp2 pIx (mVar 0) (mLit (.int 0))) (mLit (.str "many"))) (mAnd (Qr JC (Qa (mOp2 pIx (mVar 0) (mLit (.int 1))) mNil)) (Qr QB (Qa (mOp2 pIx (mVar 0) (mLit (.int 2))) mNil))))))))
noncomputable def Yl:MF:=mDef 1 0 YA
noncomputable def Qdd:MS:=(mIf (mOrT (Ys (Qj (mOp1 Qdz (mVar 0)))) (Ys (Qj (mOp1 pAll (Yc (QX (mVar 0)) 1 [] (gSet 0) ZX (Qr Yl (Qa (mVar 0) mNil))))))) (Zv 7 (Qa (mLit (.str "the machine stands between two lists of tokens")) mNil)) QA)
noncomputable def Qz:MF:=mDef 1 0 Qdd
noncomputable def Zc:MS:=(mSeq (mIf (mOrT (Ys (Qj (mOp1 (ZS .tuple) (mVar 0)))) (Qj (mOp2 pNe (mOp1 pLen (mVar 0)) (mLit (.int 4))))) (Zv 7 (Qa (mLit (.str "a shape is a state, a facing and two lists")) mNil)) QA)
 (mSeq (mIf (Ys (Qj (Qr QB (Qa (mOp2 pIx (mVar 0) (mLit (.int 0))) mNil)))) (Zv 7 (Qa (mLit (.str "the state is a whole number from nought on")) mNil)) QA)
 (mSeq (mIf (Qj (mOp2 (pIn true) (mOp2 pIx (mVar 0) (mLit (.int 1))) (mOpA pTup (Qa (mLit (.str "l")) (Qa (mLit (.str "r")) mNil))))) (Zv 7 (Qa (mLit (.str "the machine faces l or r")) mNil)) QA)
 (mSeq (YJ (Qr Qz (Qa (mOp2 pIx (mVar 0) (mLit (.int 2))) mNil)))
 (YJ (Qr Qz (Qa (mOp2 pIx (mVar 0) (mLit (.int 3))) mNil)))))))
noncomputable def ZY:MF:=mDef 1 0 Zc
noncomputable def Qa2:MS:=(mRet (mIfE (Qj (mOp2 pEq (mOp2 pIx (mVar 0) (mLit (.int 0))) (mLit (.str "one")))) (mVar 0) (mOpA pTup (Qa (mLit (.str "many")) (Qa (mOp2 pIx (mVar 0) (mLit (.int 1))) (Qa (mOp2 pAdd (mOp2 pIx (mVar 0) (mLit (.int 2))) (mLit (.int 1))) mNil))))))
noncomputable def Z9:MF:=mDef 1 0 Qa2
noncomputable def QbS:MS:=(mRet (mIfE (Qj (mOp2 pEq (mOp2 pIx (mVar 0) (mLit (.int 0))) (mLit (.str "one")))) (mOpA pTup (Qa (mOp2 pIx (mVar 0) (mLit (.int 1))) mNil)) (mOp2 pIx (mVar 0) (mLit (.int 1)))))
noncomputable def YY:MF:=mDef 1 0 QbS
noncomputable def Zm:MS:=(mIf (Qj (mOp2 pGe (mOp1 QfB (Qr YY (Qa (mVar 4) mNil))) (mVar 2))) (Zv 7 (Qa (mLit (.str "a sign is not the machine's")) mNil)) QA)
noncomputable def Zn:MS:=(mFor (QX (mVar 3)) (gSet 4) Zm)
noncomputable def Zu:MS:=(mSeq (YJ (Qr ZY (Qa (mVar 1) mNil)))
 (mSeq (mIf (Qj (mOp2 pGe (mOp2 pIx (mVar 1) (mLit (.int 0))) (Qr JQ (Qa (mVar 0) mNil)))) (Zv 7 (Qa (mLit (.str "the state is not the machine's")) mNil)) QA)
 (mSeq (mAsg (gSet 2) (Qr QaO (Qa (mVar 0) mNil)))
 (mFor (QX (QH (mVar 1) (Q0 (mLit (.int 2))) Qy)) (gSet 3) Zn))))
noncomputable def QW:MF:=mDef 2 3 Zu
noncomputable def Qbv:MS:=(mRet (mOpA pTup (Qa (mOp2 pIx (mVar 0) (mLit (.int 0))) (Qa (mOp2 pIx (mVar 0) (mLit (.int 1))) (Qa (mOp1 QZ (mOp2 pIx (mVar 0) (mLit (.int 2)))) (Qa (mOp1 QZ (mOp2 pIx (mVar 0) (mLit (.int 3)))) mNil))))))
noncomputable def YS:MF:=mDef 1 0 Qbv
noncomputable def Qiv:MS:=(mRet (mOp1 QZ (Yc (QX (mVar 0)) 1 [] (gSet 0) ZX (mOpA pTup (Qa (mLit (.str "one")) (Qa (mVar 0) mNil))))))
noncomputable def Qbw:MF:=mDef 1 0 Qiv
noncomputable def JR:MS:=(mSeq (mAsg (gSet 1) (mIfE (Qj (mOp2 pEq (mOp2 pIx (mVar 0) (mLit (.int 1))) (mLit (.str "r")))) (QH (mOp2 pIx (mVar 0) (mLit (.int 3))) Qy (Q0 (mLit (.int 1)))) (QH (mOp2 pIx (mVar 0) (mLit (.int 2))) (Q0 (mOp1 pNeg (mLit (.int 1)))) Qy)))
 (mRet (mIfE (Qj (mOp2 pGt (mOp1 pLen (mVar 1)) (mLit (.int 0)))) (mOp2 pIx (mVar 1) (mLit (.int 0))) (mLit .non))))
noncomputable def ZZ:MF:=mDef 1 1 JR
noncomputable def Qap:MS:=(mSeq (mAsg (gSet 1) (Qr ZZ (Qa (mVar 0) mNil)))
 (mSeq (mIf (mOrT (Qj (mOp2 pIs (mVar 1) (mLit .non))) (Qj (mOp2 pNe (mOp2 pIx (mVar 1) (mLit (.int 0))) (mLit (.str "many"))))) (Zv 8 (Qa (mLit (.str "the next token is no many")) mNil)) QA)
 (mRet (mVar 1))))
noncomputable def Ym:MF:=mDef 1 1 Qap
noncomputable def Yf:MS:=(mSeq (mIf (Qj (mOp2 pEq (mOp2 pIx (mVar 0) (mLit (.int 1))) (mLit (.str "r")))) (mRet (mOpA pTup (Qa (mOp2 pIx (mVar 0) (mLit (.int 0))) (Qa (mLit (.str "r")) (Qa (mOp2 pIx (mVar 0) (mLit (.int 2))) (Qa (mOp2 pAdd (mVar 1) (QH (mOp2 pIx (mVar 0) (mLit (.int 3))) (Q0 (mLit (.int 1))) Qy)) mNil)))))) QA)
 (mRet (mOpA pTup (Qa (mOp2 pIx (mVar 0) (mLit (.int 0))) (Qa (mLit (.str "l")) (Qa (mOp2 pAdd (QH (mOp2 pIx (mVar 0) (mLit (.int 2))) Qy (Q0 (mOp1 pNeg (mLit (.int 1))))) (mVar 1)) (Qa (mOp2 pIx (mVar 0) (mLit (.int 3))) mNil)))))))
noncomputable def Q5:MF:=mDef 2 0 Yf
noncomputable def QeZ:MS:=(mSeq (mAsg (gSet 4) (Qr Q5 (Qa (mVar 0) (Qa (mOpA pTup mNil) mNil))))
 (mSeq (mIf (Qj (mOp2 pEq (mVar 2) (mLit (.str "r")))) (mRet (mOpA pTup (Qa (mVar 1) (Qa (mVar 2) (Qa (mOp2 pAdd (mOp2 pIx (mVar 4) (mLit (.int 2))) (mOpA pTup (Qa (mVar 3) mNil))) (Qa (mOp2 pIx (mVar 4) (mLit (.int 3))) mNil)))))) QA)
 (mRet (mOpA pTup (Qa (mVar 1) (Qa (mVar 2) (Qa (mOp2 pIx (mVar 4) (mLit (.int 2))) (Qa (mOp2 pAdd (mOpA pTup (Qa (mVar 3) mNil)) (mOp2 pIx (mVar 4) (mLit (.int 3)))) mNil))))))))
noncomputable def Qaq:MF:=mDef 4 1 QeZ
noncomputable def Ji:MS:=(mSeq (mAsg (gSet 2) (Qr ZZ (Qa (mVar 1) mNil)))
 (mSeq (mIf (QbN (Qj (mOp2 QeS (mVar 2) (mLit .non))) (Qj (mOp2 pEq (mOp2 pIx (mVar 2) (mLit (.int 0))) (mLit (.str "many"))))) (Zv 8 (Qa (mLit (.str "the cell to be read is no one")) mNil)) QA)
 (mSeq (mAsg (gSet 3) (mOp2 pIx (mOp2 pIx (Qa9 [11] "table" (mVar 0)) (mOp2 pIx (mVar 1) (mLit (.int 0)))) (mIfE (Qj (mOp2 pIs (mVar 2) (mLit .non))) (mLit (.int 0)) (mOp2 pIx (mVar 2) (mLit (.int 1))))))
 (mSeq (mIf (Qj (mOp2 pIs (mVar 3) (mLit .non))) (Zv 8 (Qa (mLit (.str "the machine stops there")) mNil)) QA)
 (mRet (Qr Qaq (Qa (mVar 1) (Qa (mOp2 pIx (mVar 3) (mLit (.int 2))) (Qa (mOp2 pIx (mVar 3) (mLit (.int 1))) (Qa (mOpA pTup (Qa (mLit (.str "one")) (Qa (mOp2 pIx (mVar 3) (mLit (.int 0))) mNil))) mNil))))))))))
noncomputable def Yn:MF:=mDef 2 2 Ji
noncomputable def QT:MS:=(mSeq (mAsg (gSet 8) (mOp2 pIx (mOp2 pIx (Qa9 [11] "table" (mVar 0)) (mVar 6)) (mOp2 pIx (mVar 4) (mVar 5))))
 (mSeq (mIf (Qj (mOp2 pIs (mVar 8) (mLit .non))) (mRet (mLit .non)) QA)
 (mSeq (Jf (mVar 4) (mVar 5) (mOp2 pIx (mVar 8) (mLit (.int 0))))
 (mSeq (mAsg (gSet 5) (mIfE (Qj (mOp2 pEq (mOp2 pIx (mVar 8) (mLit (.int 1))) (mLit (.str "r")))) (mOp2 pAdd (mVar 5) (mLit (.int 1))) (mOp2 pSub (mVar 5) (mLit (.int 1)))))
 (mSeq (mAsg (gSet 6) (mOp2 pIx (mVar 8) (mLit (.int 2))))
 (mIf (Ys (Qj (Qr QO (Qa (mVar 5) (Qa (mOp1 pLen (mVar 4)) mNil))))) (mRet (mIfE (QbN (Qj (mOp2 pEq (mOp2 pIx (mVar 8) (mLit (.int 1))) (mVar 2))) (Qj (mOp2 pEq (mVar 6) (mVar 1)))) (mOp1 QZ (mVar 4)) (mLit .non))) QA))))))
noncomputable def Qbx:MS:=(mSeq (mAsg (gSet 4) (mOp1 Qcb (mVar 3)))
 (mSeq (mAsg (gSet 5) (mIfE (Qj (mOp2 pEq (mVar 2) (mLit (.str "r")))) (mLit (.int 0)) (mOp2 pSub (mOp1 pLen (mVar 4)) (mLit (.int 1)))))
 (mSeq (mAsg (gSet 6) (mVar 1))
 (mSeq (mFor (Zi (mLit (.int 1000))) (gSet 7) QT)
 (mRet (mLit .non))))))
noncomputable def JS:MF:=mDef 4 5 Qbx
noncomputable def Jj:MS:=(mSeq (mAsg (gSet 2) (Qr Ym (Qa (mVar 1) mNil)))
 (mSeq (mAsg (gSet 3) (Qr JS (Qa (mVar 0) (Qa (mOp2 pIx (mVar 1) (mLit (.int 0))) (Qa (mOp2 pIx (mVar 1) (mLit (.int 1))) (Qa (mOp2 pIx (mVar 2) (mLit (.int 1))) mNil))))))
 (mSeq (mIf (Qj (mOp2 pIs (mVar 3) (mLit .non))) (Zv 8 (Qa (mLit (.str "the machine does not go over the word")) mNil)) QA)
 (mRet (Qr Qaq (Qa (mVar 1) (Qa (mOp2 pIx (mVar 1) (mLit (.int 0))) (Qa (mOp2 pIx (mVar 1) (mLit (.int 1))) (Qa (mOpA pTup (Qa (mLit (.str "many")) (Qa (mVar 3) (Qa (mOp2 pIx (mVar 2) (mLit (.int 2))) mNil)))) mNil)))))))))
noncomputable def Yo:MF:=mDef 2 2 Jj
noncomputable def Yp:MS:=(mSeq (mAsg (gSet 1) (Qr Ym (Qa (mVar 0) mNil)))
 (mSeq (mIf (Qj (mOp2 pLt (mOp2 pIx (mVar 1) (mLit (.int 2))) (mLit (.int 1)))) (Zv 8 (Qa (mLit (.str "the many has no extra")) mNil)) QA)
 (mSeq (mAsg (gSet 2) (mOpA pTup (Qa (mOpA pTup (Qa (mLit (.str "many")) (Qa (mOp2 pIx (mVar 1) (mLit (.int 1))) (Qa (mOp2 pSub (mOp2 pIx (mVar 1) (mLit (.int 2))) (mLit (.int 1))) mNil)))) mNil)))
 (mSeq (mAsg (gSet 3) (Qr Qbw (Qa (mOp2 pIx (mVar 1) (mLit (.int 1))) mNil)))
 (mRet (Qr Q5 (Qa (mVar 0) (Qa (mIfE (Qj (mOp2 pEq (mOp2 pIx (mVar 0) (mLit (.int 1))) (mLit (.str "r")))) (mOp2 pAdd (mVar 3) (mVar 2)) (mOp2 pAdd (mVar 2) (mVar 3))) mNil))))))))
noncomputable def ZI:MF:=mDef 1 3 Yp
noncomputable def ZF:MS:=(mSeq (mIf (Ys (Qj (Qr QO (Qa (mVar 2) (Qa (mOp1 pLen (mVar 0)) mNil))))) (Zv 8 (Qa (mLit (.str "the list has no such token")) mNil)) QA)
 (mSeq (mAsg (gSet 3) (mIfE (Qj (mOp2 pEq (mVar 1) (mLit (.str "l")))) (mVar 2) (mOp2 pSub (mOp2 pSub (mOp1 pLen (mVar 0)) (mLit (.int 1))) (mVar 2))))
 (mSeq (mIf (Qj (mOp2 pNe (mOp2 pIx (mOp2 pIx (mVar 0) (mVar 3)) (mLit (.int 0))) (mLit (.str "many")))) (Zv 8 (Qa (mLit (.str "the token is no many")) mNil)) QA)
 (mRet (mVar 3)))))
noncomputable def QS:MF:=mDef 3 1 ZF
noncomputable def ZC:MS:=(mSeq (mAsg (gSet 3) (mOp2 pIx (mVar 0) (mVar 1)))
 (mSeq (mAsg (gSet 4) (mIfE (Qj (mVar 2)) (mOp2 pAdd (mVar 1) (mLit (.int 1))) (mOp2 pSub (mVar 1) (mOp1 pLen (mOp2 pIx (mVar 3) (mLit (.int 1)))))))
 (mSeq (mAsg (gSet 5) (mOp2 pAdd (mVar 4) (mOp1 pLen (mOp2 pIx (mVar 3) (mLit (.int 1))))))
 (mSeq (mIf (mOrT (Qj (mOp2 pLt (mVar 4) (mLit (.int 0)))) (Qj (mOp2 pNe (QH (mVar 0) (Q0 (mVar 4)) (Q0 (mVar 5))) (Qr Qbw (Qa (mOp2 pIx (mVar 3) (mLit (.int 1))) mNil))))) (Zv 8 (Qa (mLit (.str "the ones next to the many are not its word")) mNil)) QA)
 (mRet (mOp2 pAdd (mOp2 pAdd (QH (mVar 0) Qy (Q0 (mOp2 QjN (mVar 4) (mVar 1)))) (mOpA pTup (Qa (Qr Z9 (Qa (mVar 3) mNil)) mNil))) (QH (mVar 0) (Q0 (mOp2 QjO (mVar 5) (mOp2 pAdd (mVar 1) (mLit (.int 1))))) Qy)))))))
noncomputable def Q1:MF:=mDef 3 3 ZC
noncomputable def QM:MS:=(mSeq (mAsg (gSet 3) (mOp2 pIx (mVar 0) (mVar 1)))
 (mSeq (mAsg (gSet 4) (mOp2 pIx (mVar 3) (mLit (.int 1))))
 (mSeq (mAsg (gSet 5) (mIfE (Qj (mVar 2)) (mOp2 pIx (mVar 4) (mOp1 pNeg (mLit (.int 1)))) (mOp2 pIx (mVar 4) (mLit (.int 0)))))
 (mSeq (mAsg (gSet 6) (mIfE (Qj (mVar 2)) (mOp2 pSub (mVar 1) (mLit (.int 1))) (mOp2 pAdd (mVar 1) (mLit (.int 1)))))
 (mSeq (mIf (mOrT (Ys (Qj (Qr QO (Qa (mVar 6) (Qa (mOp1 pLen (mVar 0)) mNil))))) (Qj (mOp2 pNe (mOp2 pIx (mVar 0) (mVar 6)) (mOpA pTup (Qa (mLit (.str "one")) (Qa (mVar 5) mNil)))))) (Zv 8 (Qa (mLit (.str "the one next to the many is not its word's sign")) mNil)) QA)
 (mSeq (mIf (Qj (mVar 2)) (mSeq (mAsg (gSet 7) (mOpA pTup (Qa (mLit (.str "many")) (Qa (mOp2 pAdd (mOpA pTup (Qa (mVar 5) mNil)) (QH (mVar 4) Qy (Q0 (mOp1 pNeg (mLit (.int 1)))))) (Qa (mOp2 pIx (mVar 3) (mLit (.int 2))) mNil)))))
 (mRet (mOp2 pAdd (mOp2 pAdd (QH (mVar 0) Qy (Q0 (mVar 6))) (mOpA pTup (Qa (mVar 7) (Qa (mOp2 pIx (mVar 0) (mVar 6)) mNil)))) (QH (mVar 0) (Q0 (mOp2 pAdd (mVar 1) (mLit (.int 1)))) Qy)))) QA)
 (mSeq (mAsg (gSet 7) (mOpA pTup (Qa (mLit (.str "many")) (Qa (mOp2 pAdd (QH (mVar 4) (Q0 (mLit (.int 1))) Qy) (mOpA pTup (Qa (mVar 5) mNil))) (Qa (mOp2 pIx (mVar 3) (mLit (.int 2))) mNil)))))
 (mRet (mOp2 pAdd (mOp2 pAdd (QH (mVar 0) Qy (Q0 (mVar 1))) (mOpA pTup (Qa (mOp2 pIx (mVar 0) (mVar 6)) (Qa (mVar 7) mNil)))) (QH (mVar 0) (Q0 (mOp2 pAdd (mVar 6) (mLit (.int 1)))) Qy))))))))))
noncomputable def QE:MF:=mDef 3 5 QM
noncomputable def YZ:MS:=(mSeq (mAsg (gSet 3) (mOpA pTup (Qa (mOpA pTup (Qa (mLit (.str "one")) (Qa (mLit (.int 0)) mNil))) mNil)))
 (mSeq (mIf (Qj (mOp2 pEq (mVar 1) (mLit (.str "pad")))) (mRet (mIfE (Qj (mOp2 pEq (mVar 2) (mLit (.str "l")))) (mOp2 pAdd (mVar 3) (mVar 0)) (mOp2 pAdd (mVar 0) (mVar 3)))) QA)
 (mSeq (mIf (Qj (mOp2 pNe (mVar 1) (mLit (.str "trim")))) (Zv 8 (Qa (mLit (.str "there is no such move of a list")) mNil)) QA)
 (mSeq (mIf (Qj (mOp2 pNe (mIfE (Qj (mOp2 pEq (mVar 2) (mLit (.str "l")))) (QH (mVar 0) Qy (Q0 (mLit (.int 1)))) (QH (mVar 0) (Q0 (mOp1 pNeg (mLit (.int 1)))) Qy)) (mVar 3))) (Zv 8 (Qa (mLit (.str "the outermost token is no one of the blank")) mNil)) QA)
 (mRet (mIfE (Qj (mOp2 pEq (mVar 2) (mLit (.str "l")))) (QH (mVar 0) (Q0 (mLit (.int 1))) Qy) (QH (mVar 0) Qy (Q0 (mOp1 pNeg (mLit (.int 1)))))))))))
noncomputable def ZN:MF:=mDef 3 1 YZ
noncomputable def ZT:MS:=(mSeq (mAsg (gSet 4) (Qr QS (Qa (mVar 0) (Qa (mVar 2) (Qa (mVar 3) mNil)))))
 (mSeq (mIf (Qj (mOp2 (pIn false) (mVar 1) (mOpA pTup (Qa (mLit (.str "join")) (Qa (mLit (.str "draw")) mNil))))) (mRet (Qr Q1 (Qa (mVar 0) (Qa (mVar 4) (Qa (mOp2 pEq (mOp2 pEq (mVar 1) (mLit (.str "join"))) (mOp2 pEq (mVar 2) (mLit (.str "l")))) mNil))))) QA)
 (mSeq (mIf (Qj (mOp2 (pIn false) (mVar 1) (mOpA pTup (Qa (mLit (.str "roll")) (Qa (mLit (.str "back")) mNil))))) (mRet (Qr QE (Qa (mVar 0) (Qa (mVar 4) (Qa (mOp2 pEq (mOp2 pEq (mVar 1) (mLit (.str "roll"))) (mOp2 pEq (mVar 2) (mLit (.str "l")))) mNil))))) QA)
 (Zv 8 (Qa (mLit (.str "there is no such move of a many")) mNil)))))
noncomputable def Zb:MF:=mDef 4 1 ZT
noncomputable def Qm:MS:=(mSeq (mIf (mOrT (Ys (Qj (mOp1 (ZS .tuple) (mVar 1)))) (mOrT (Qj (mOp2 (pIn true) (mOp1 pLen (mVar 1)) (mOpA pTup (Qa (mLit (.int 2)) (Qa (mLit (.int 3)) mNil))))) (Qj (mOp2 (pIn true) (mOp2 pIx (mVar 1) (mLit (.int 1))) (mOpA pTup (Qa (mLit (.str "l")) (Qa (mLit (.str "r")) mNil))))))) (Zv 8 (Qa (mLit (.str "there is no such move")) mNil)) QA)
 (mSeq (mAsg (gSet 2) (mOp2 pIx (mVar 1) (mLit (.int 1))))
 (mSeq (mAsg (gSet 3) (mIfE (Qj (mOp2 pEq (mVar 2) (mLit (.str "l")))) (mOp2 pIx (mVar 0) (mLit (.int 2))) (mOp2 pIx (mVar 0) (mLit (.int 3)))))
 (mSeq (mIf (Qj (mOp2 pEq (mOp1 pLen (mVar 1)) (mLit (.int 2)))) (mAsg (gSet 4) (Qr ZN (Qa (mVar 3) (Qa (mOp2 pIx (mVar 1) (mLit (.int 0))) (Qa (mVar 2) mNil))))) (mAsg (gSet 4) (Qr Zb (Qa (mVar 3) (Qa (mOp2 pIx (mVar 1) (mLit (.int 0))) (Qa (mVar 2) (Qa (mOp2 pIx (mVar 1) (mLit (.int 2))) mNil)))))))
 (mSeq (mIf (Qj (mOp2 pEq (mVar 2) (mLit (.str "l")))) (mRet (mOpA pTup (Qa (mOp2 pIx (mVar 0) (mLit (.int 0))) (Qa (mOp2 pIx (mVar 0) (mLit (.int 1))) (Qa (mVar 4) (Qa (mOp2 pIx (mVar 0) (mLit (.int 3))) mNil)))))) QA)
 (mRet (mOpA pTup (Qa (mOp2 pIx (mVar 0) (mLit (.int 0))) (Qa (mOp2 pIx (mVar 0) (mLit (.int 1))) (Qa (mOp2 pIx (mVar 0) (mLit (.int 2))) (Qa (mVar 4) mNil)))))))))))
noncomputable def Qk:MF:=mDef 2 3 Qm
noncomputable def QC:MS:=(mSeq (mIf (Qj (mOp2 pEq (mVar 2) (mLit (.tup [(.str "step")])))) (mRet (Qr Yn (Qa (mVar 0) (Qa (mVar 1) mNil)))) QA)
 (mSeq (mIf (Qj (mOp2 pEq (mVar 2) (mLit (.tup [(.str "over")])))) (mRet (Qr Yo (Qa (mVar 0) (Qa (mVar 1) mNil)))) QA)
 (mSeq (mIf (Qj (mOp2 pEq (mVar 2) (mLit (.tup [(.str "open")])))) (mRet (Qr ZI (Qa (mVar 1) mNil))) QA)
 (mRet (Qr Qk (Qa (mVar 1) (Qa (mVar 2) mNil)))))))
noncomputable def Qt:MF:=mDef 3 0 QC
noncomputable def QfD:MS:=(mSeq (YJ (Qr QW (Qa (mVar 0) (Qa (mVar 1) mNil))))
 (mRet (Qr Qt (Qa (mVar 0) (Qa (Qr YS (Qa (mVar 1) mNil)) (Qa (mVar 2) mNil))))))
noncomputable def JT:MF:=mDef 3 0 QfD
noncomputable def Qd5:MS:=(mSeq (Jf (mVar 1) (mLit (.int 0)) (mOp2 pAdd (mOp2 pIx (mVar 1) (mLit (.int 0))) (mLit (.int 1))))
 (mSeq (mAsg (gSet 2) (mLit (.int 0)))
 (mSeq (mIf (Qj (mOp2 pGt (mOp1 pLen (mVar 0)) (mLit (.int 0)))) (mAsg (gSet 2) (mOp2 pIx (mVar 0) (mOp2 pMod (mOp2 pIx (mVar 1) (mLit (.int 0))) (mOp1 pLen (mVar 0))))) QA)
 (mSeq (mAsg (gSet 3) (mOp2 pMod (mOp2 pMul (mOp2 pAdd (mOp2 pAdd (mOp2 pMod (mVar 2) (mLit (.int 2147483647))) (mOp2 pMul (mOp2 pMul (mOp2 pIx (mVar 1) (mLit (.int 0))) (mOp2 pIx (mVar 1) (mLit (.int 0)))) (mLit (.int 7919)))) (mLit (.int 11))) (mLit (.int 48271))) (mLit (.int 2147483647))))
 (mRet (mOp2 pMod (mOp2 pMul (mVar 3) (mVar 3)) (mLit (.int 1999999973))))))))
noncomputable def Yu:MF:=mDef 2 2 Qd5
noncomputable def JU(me:MF):MS:=(mSeq (mIf (Qj (mOp1 (ZS .dict) (mVar 1))) (mSeq (mIf (mOrT (Ys (Qj (mOp1 (ZS .dict) (mVar 0)))) (Qj (mOp2 pNe (mOp1 pLen (mVar 0)) (mOp1 pLen (mVar 1))))) (mRet (mLit (.bl false))) QA)
 (mRet (mOp1 pAll (Yc (QX (mVar 1)) 1 [0,1] (gSet 0) ZX (mAnd (mOp2 (pIn false) (mVar 0) (mVar 1)) (Qr me (Qa (mOp2 pIx (mVar 1) (mVar 0)) (Qa (mOp2 pIx (mVar 2) (mVar 0)) mNil)))))))) QA)
 (mSeq (mIf (mOrT (Qj (mOp1 (ZS .list) (mVar 1))) (Qj (mOp1 (ZS .tuple) (mVar 1)))) (mSeq (mIf (mOrT (Qj (mOp2 pNe (mOp1 (ZS .list) (mVar 0)) (mOp1 (ZS .list) (mVar 1)))) (Qj (mOp2 pNe (mOp1 (ZS .tuple) (mVar 0)) (mOp1 (ZS .tuple) (mVar 1))))) (mRet (mLit (.bl false))) QA)
 (mRet (mAnd (mOp2 pEq (mOp1 pLen (mVar 0)) (mOp1 pLen (mVar 1))) (mOp1 pAll (Yc (QeR (mVar 0) (mVar 1)) 2 [] (JO [(gSet 0),(gSet 1)]) ZX (Qr me (Qa (mVar 0) (Qa (mVar 1) mNil)))))))) QA)
 (mSeq (mIf (Qj (mOp1 (ZS .str) (mVar 1))) (mRet (mAnd (mOp1 (ZS .str) (mVar 0)) (mOp2 pEq (mVar 0) (mVar 1)))) QA)
 (mRet (mAnd (mOp1 (ZS .int) (mVar 0)) (mAnd (mNot (mOp1 (ZS .bool) (mVar 0))) (mOp2 pEq (mVar 0) (mVar 1))))))))
noncomputable def Yb:Nat->MF
 |0=>λ_ _=>.stuck
 |k+1=>mDef 2 0 (JU (Yb k))
noncomputable def Qd6:MS:=(mSeq (mAsg (gSet 3) (Qr Yu (Qa (mVar 0) (Qa (mVar 1) mNil))))
 (mSeq (mAsg (gSet 4) (mOp2 pIx (mOpA newL (Qa (mLit (.int 1)) (Qa (mLit (.int 1)) (Qa (mLit (.int 2)) (Qa (mLit (.int 2)) (Qa (mLit (.int 3)) (Qa (mLit (.int 3)) (Qa (mOp2 pAdd (mLit (.int 1)) (mOp2 pMod (mOp2 QR (mVar 3) (mLit (.int 8))) (mLit (.int 6)))) (Qa (mLit (.int 20)) mNil))))))))) (mOp2 pMod (mVar 3) (mLit (.int 8)))))
 (mSeq (mIf (QbN (Qj (mOp2 pEq (mVar 4) (mLit (.int 20)))) (Qj (mOp2 pGt (mOp2 pMod (mOp2 QR (mVar 3) (mLit (.int 8))) (mLit (.int 9))) (mLit (.int 0))))) (mAsg (gSet 4) (mLit (.int 2))) QA)
 (mSeq (mAsg (gSet 5) (Qr Yu (Qa (mVar 0) (Qa (mVar 1) mNil))))
 (mRet (mOp1 QZ (Yc (Zi (mVar 4)) 1 [2,5,3] (gSet 0) ZX (mOp2 pMod (mOp2 pAdd (mOp2 QR (mVar 2) (mOp2 pAdd (mOp2 pMul (mOp2 pMul (mVar 0) (mVar 0)) (mVar 0)) (mLit (.int 1)))) (mOp2 pMul (mVar 0) (mOp2 pMod (mOp2 QR (mVar 3) (mLit (.int 72))) (mLit (.int 5))))) (mVar 1)))))))))
noncomputable def Qd7:MF:=mDef 3 3 Qd6
noncomputable def ZU:MS:=(mSeq (mAsg (gSet 8) (Qr Yu (Qa (mVar 0) (Qa (mVar 1) mNil))))
 (mSeq (mAsg (gSet 9) (mOpA pTup (Qa (mOp2 pMod (mOp2 QR (mVar 8) (mLit (.int 9))) (mVar 3)) (Qa (mOp2 pIx (mLit (.str "lr")) (mOp2 pMod (mOp2 QR (mVar 8) (mLit (.int 100))) (mLit (.int 2)))) (Qa (mOp2 pMod (mOp2 QR (mVar 8) (mLit (.int 300))) (mVar 2)) mNil)))))
 (mSeq (mIf (Qj (mOp2 pEq (mOp2 pMod (mVar 8) (mLit (.int 9))) (mLit (.int 0)))) (mAsg (gSet 9) (mLit .non)) QA)
 (YJ (Jr (mVar 6) (mVar 9))))))
noncomputable def Jk:MS:=(mSeq (mAsg (gSet 6) (mOpA newL mNil))
 (mSeq (mFor (Zi (mVar 3)) (gSet 7) ZU)
 (YJ (Jr (mVar 4) (mVar 6)))))
noncomputable def QcH:MS:=(mSeq (mAsg (gSet 4) (mOpA newL mNil))
 (mSeq (mFor (Zi (mVar 2)) (gSet 5) Jk)
 (mRet (mVar 4))))
noncomputable def QcI:MF:=mDef 4 6 QcH
noncomputable def Yv:MS:=(mSeq (mAsg (gSet 5) (Qr Yu (Qa (mVar 0) (Qa (mVar 1) mNil))))
 (mSeq (mIf (Qj (mOp2 pEq (mOp2 pMod (mVar 5) (mLit (.int 5))) (mLit (.int 0)))) (mRet (mVar 4)) QA)
 (mIf (Qj (mOp2 pLt (mOp2 pMod (mVar 5) (mLit (.int 5))) (mLit (.int 3)))) (YJ (Jr (mVar 4) (mOpA pTup (Qa (mLit (.str "one")) (Qa (mOp2 pMod (mOp2 QR (mVar 5) (mLit (.int 5))) (mVar 2)) mNil))))) (mSeq (mAsg (gSet 6) (Qr Qd7 (Qa (mVar 0) (Qa (mVar 1) (Qa (mVar 2) mNil)))))
 (mSeq (mAsg (gSet 7) (Yc (QX (QH (mVar 6) Qy (Q0 (mLit (.int 7))))) 1 [6] (gSet 0) (Qj (mOp2 pLt (mOp1 pLen (mVar 1)) (mLit (.int 8)))) (mOpA pTup (Qa (mLit (.str "one")) (Qa (mVar 0) mNil)))))
 (mSeq (YJ (QcF (mVar 4) (mOp2 pIx (mOpA newL (Qa (mOpA newL mNil) (Qa (mVar 7) (Qa (QH (mVar 7) (Q0 (mOp1 pNeg (mLit (.int 1)))) Qy) (Qa (QH (mVar 7) Qy (Q0 (mLit (.int 1)))) (Qa (mVar 7) (Qa (mOpA newL mNil) mNil))))))) (mOp2 pMod (mOp2 QR (mVar 5) (mLit (.int 5))) (mLit (.int 6))))))
 (mSeq (YJ (Jr (mVar 4) (mOpA pTup (Qa (mLit (.str "many")) (Qa (mVar 6) (Qa (mOp2 pMod (mOp2 QR (mVar 5) (mLit (.int 30))) (mLit (.int 4))) mNil))))))
 (YJ (QcF (mVar 4) (mOp2 pIx (mOpA newL (Qa (mOpA newL mNil) (Qa (mVar 7) (Qa (QH (mVar 7) Qy (Q0 (mLit (.int 1)))) (Qa (QH (mVar 7) (Q0 (mOp1 pNeg (mLit (.int 1)))) Qy) (Qa (mOpA newL mNil) (Qa (mVar 7) mNil))))))) (mOp2 pMod (mOp2 QR (mVar 5) (mLit (.int 120))) (mLit (.int 6)))))))))))))
noncomputable def QbT:MS:=(mSeq (mAsg (gSet 4) (mOpA newL mNil))
 (mSeq (Qds (Qj (mOp2 pLt (mOp1 pLen (mVar 4)) (mVar 3))) Yv)
 (mRet (mVar 4))))
noncomputable def QaP:MF:=mDef 4 4 QbT
noncomputable def QcJ:MS:=(mSeq (mAsg (gSet 4) (Qr Yu (Qa (mVar 0) (Qa (mVar 1) mNil))))
 (mSeq (mAsg (gSet 5) (Qr QaP (Qa (mVar 0) (Qa (mVar 1) (Qa (mVar 3) (Qa (mOp2 pMod (mOp2 QR (mVar 4) (mLit (.int 2))) (mLit (.int 5))) mNil))))))
 (mSeq (mAsg (gSet 6) (Qr QaP (Qa (mVar 0) (Qa (mVar 1) (Qa (mVar 3) (Qa (mOp2 pMod (mOp2 QR (mVar 4) (mLit (.int 10))) (mLit (.int 5))) mNil))))))
 (mRet (mOpA pTup (Qa (mOp2 pMod (mOp2 QR (mVar 4) (mLit (.int 50))) (mVar 2)) (Qa (mOp2 pIx (mLit (.str "lr")) (mOp2 pMod (mVar 4) (mLit (.int 2)))) (Qa (mVar 5) (Qa (mVar 6) mNil)))))))))
noncomputable def QcK:MF:=mDef 4 3 QcJ
noncomputable def Qd8:MS:=(mSeq (mAsg (JO [(gSet 1),(gSet 2),(gSet 3),(gSet 4)]) (mVar 0))
 (mRet (mOpA pTup (Qa (mVar 1) (Qa (mVar 2) (Qa (mOp1 QZ (mVar 3)) (Qa (mOp1 QZ (mVar 4)) mNil)))))))
noncomputable def QaQ:MF:=mDef 1 4 Qd8
noncomputable def Qiw:MS:=(mSeq (mAsg (gSet 2) (mOpA newL (Qa (mOp1 (Za [0,1,2,3,4,5,6,7,8,9,10] [1]) (mVar 0)) (Qa (mOp1 (Za [0,1,2,3,4,5,6,7,8,9,10] [2]) (mVar 0)) (Qa (mOp1 (Za [0,1,2,3,4,5,6,7,8,9,10] [3]) (mVar 0)) mNil)))))
 (mSeq (mAsg (gSet 2) (mOp2 pAdd (mVar 2) (mOpA newL (Qa (mOp1 (Za [0,1,2,3,4,5,6,7,8,9,10] [4]) (mVar 0)) (Qa (mOp1 (Za [0,1,2,3,4,5,6,7,8,9,10] [5]) (mVar 0)) (Qa (mOp1 (Za [0,1,2,3,4,5,6,7,8,9,10] [6]) (mVar 0)) mNil))))))
 (mSeq (mAsg (gSet 2) (mOp2 pAdd (mVar 2) (mOpA newL (Qa (mOp1 (Za [0,1,2,3,4,5,6,7,8,9,10] [9]) (mVar 0)) (Qa (mOp1 (Za [0,1,2,3,4,5,6,7,8,9,10] [10]) (mVar 0)) mNil)))))
 (mSeq (mIf (mOrT (Qj (mOp2 (pIn false) (mLit (.bl true)) (mVar 2))) (Ys (Qj (mOp1 (Za [0,1,2,3,4,5,6,7,8,9,10] [0,1,2,3,4,5,6,7,8,9,10]) (mVar 0))))) (mRet (mLit (.bl false))) QA)
 (mRet (mAnd (mOp2 pEq (mOp1 (Za [0,1,2,3,4,5,6,7,8,9,10] [7]) (mVar 0)) (mOp2 pEq (mVar 1) (mLit (.str "shape")))) (mOp2 pEq (mOp1 (Za [0,1,2,3,4,5,6,7,8,9,10] [8]) (mVar 0)) (mOp2 pEq (mVar 1) (mLit (.str "move"))))))))))
noncomputable def Qgy:MF:=mDef 2 1 Qiw
noncomputable def Qby:MS:=(mSeq (mAsg (JO [(gSet 2),(gSet 3),(gSet 4),(gSet 5)]) (mVar 1))
 (mSeq (mAsg (gSet 6) (mOpA newL (Qa (mOpA pTup (Qa (mLit (.str "one")) mNil)) (Qa (mOpA pTup (Qa (mLit (.str "one")) (Qa (mOp1 pNeg (mLit (.int 1))) mNil))) (Qa (mOpA pTup (Qa (mLit (.str "many")) (Qa (mOpA pTup mNil) (Qa (mLit (.int 0)) mNil)))) (Qa (mOpA pTup (Qa (mLit (.str "many")) (Qa (mOpA pTup (Qa (mLit (.int 0)) mNil)) (Qa (mOp1 pNeg (mLit (.int 1))) mNil)))) (Qa (mOpA pTup (Qa (mLit (.str "many")) (Qa (mOpA newL (Qa (mLit (.int 0)) mNil)) (Qa (mLit (.int 0)) mNil)))) (Qa (mOpA pTup (Qa (mLit (.str "two")) (Qa (mLit (.int 0)) mNil))) (Qa (mLit .non) mNil)))))))))
 (mSeq (mAsg (gSet 6) (mOp2 pAdd (mVar 6) (mOpA newL (Qa (mOpA pTup (Qa (mLit (.str "many")) (Qa (mOpA pTup (Qa (mLit (.int 0)) mNil)) mNil))) (Qa (mOpA pTup (Qa (mLit (.str "one")) (Qa (mLit (.str "0")) mNil))) (Qa (mOpA pTup (Qa (mLit (.str "many")) (Qa (mOpA pTup (Qa (mLit (.int 0)) (Qa (mOp1 pNeg (mLit (.int 1))) mNil))) (Qa (mLit (.int 1)) mNil)))) (Qa (mOpA newL (Qa (mLit (.str "one")) (Qa (mLit (.int 0)) mNil))) (Qa (mOpA pTup mNil) (Qa (mLit (.str "one")) (Qa (mOpA pTup (Qa (mLit (.str "one")) (Qa (mLit (.int 0)) (Qa (mLit (.int 0)) mNil)))) (Qa (mLit (.int 5)) mNil)))))))))))
 (mSeq (mAsg (gSet 7) (mOp2 pIx (mVar 6) (mOp2 pMod (mOp2 QR (mVar 0) (mLit (.int 9))) (mLit (.int 15)))))
 (mSeq (mAsg (gSet 8) (mOp2 pMod (mOp2 QR (mVar 0) (mLit (.int 135))) (mOp2 pAdd (mOp1 pLen (mVar 4)) (mLit (.int 1)))))
 (mSeq (mIf (Qj (mOp2 pEq (mOp2 pMod (mVar 0) (mLit (.int 9))) (mLit (.int 0)))) (mRet (mOpA pTup (Qa (mOp1 pNeg (mLit (.int 1))) (Qa (mVar 3) (Qa (mVar 4) (Qa (mVar 5) mNil)))))) QA)
 (mSeq (mIf (Qj (mOp2 pEq (mOp2 pMod (mVar 0) (mLit (.int 9))) (mLit (.int 1)))) (mRet (mOpA pTup (Qa (mVar 2) (Qa (mOp2 pIx (mOpA newL (Qa (mLit (.str "")) (Qa (mLit (.str "x")) (Qa (mLit (.str "rl")) (Qa (mLit .non) mNil))))) (mOp2 pMod (mOp2 QR (mVar 0) (mLit (.int 9))) (mLit (.int 4)))) (Qa (mVar 4) (Qa (mVar 5) mNil)))))) QA)
 (mSeq (mIf (Qj (mOp2 pEq (mOp2 pMod (mVar 0) (mLit (.int 9))) (mLit (.int 2)))) (mRet (mOpA pTup (Qa (mVar 2) (Qa (mVar 3) (Qa (mLit .non) (Qa (mVar 5) mNil)))))) QA)
 (mSeq (mIf (Qj (mOp2 pEq (mOp2 pMod (mVar 0) (mLit (.int 9))) (mLit (.int 3)))) (mRet (mOp2 pIx (mOpA newL (Qa (mOpA pTup (Qa (mVar 2) (Qa (mVar 3) (Qa (mVar 4) mNil)))) (Qa (mOpA newL (Qa (mVar 2) (Qa (mVar 3) (Qa (mVar 4) (Qa (mVar 5) mNil))))) (Qa (mLit .non) (Qa (mOpA pTup (Qa (mVar 2) (Qa (mVar 3) (Qa (mVar 4) (Qa (mVar 5) (Qa (mLit (.int 0)) mNil)))))) mNil))))) (mOp2 pMod (mOp2 QR (mVar 0) (mLit (.int 9))) (mLit (.int 4))))) QA)
 (mSeq (mIf (Qj (mOp2 pEq (mOp2 pMod (mVar 0) (mLit (.int 9))) (mLit (.int 4)))) (mRet (mOpA pTup (Qa (mVar 2) (Qa (mVar 3) (Qa (mVar 4) (Qa (mLit (.str "one")) mNil)))))) QA)
 (mSeq (mIf (Qj (mOp2 pEq (mOp2 pMod (mVar 0) (mLit (.int 9))) (mLit (.int 5)))) (mRet (mOpA pTup (Qa (mLit .non) (Qa (mVar 3) (Qa (mVar 4) (Qa (mVar 5) mNil)))))) QA)
 (mSeq (mIf (Qj (mOp2 pEq (mOp2 pMod (mVar 0) (mLit (.int 9))) (mLit (.int 6)))) (mRet (mOpA pTup (Qa (mVar 2) (Qa (mVar 3) (Qa (mVar 4) (Qa (mOp2 pAdd (mOp1 Qcb (mVar 5)) (mOpA newL (Qa (mVar 7) mNil))) mNil)))))) QA)
 (mRet (mOpA pTup (Qa (mVar 2) (Qa (mVar 3) (Qa (mOp2 pAdd (mOp2 pAdd (mOp1 Qcb (QH (mVar 4) Qy (Q0 (mVar 8)))) (mOpA newL (Qa (mVar 7) mNil))) (mOp1 Qcb (QH (mVar 4) (Q0 (mVar 8)) Qy))) (Qa (mVar 5) mNil))))))))))))))))))
noncomputable def Yw:MF:=mDef 2 7 Qby
noncomputable def Qar:MS:=(mSeq (mAsg (JO [(gSet 1),(gSet 2),(gSet 3),(gSet 4)]) (mVar 0))
 (mSeq (mIf (Qj (mOp2 pEq (mVar 2) (mLit (.str "r")))) (mSeq (mIf (Qj (mOp2 pEq (mOp1 pLen (mVar 4)) (mLit (.int 0)))) (mRet (mOpA pTup (Qa (mLit .non) (Qa (mVar 3) (Qa (mVar 4) mNil))))) QA)
 (mRet (mOpA pTup (Qa (mOp2 pIx (mVar 4) (mLit (.int 0))) (Qa (mVar 3) (Qa (QH (mVar 4) (Q0 (mLit (.int 1))) Qy) mNil)))))) QA)
 (mSeq (mIf (Qj (mOp2 pEq (mOp1 pLen (mVar 3)) (mLit (.int 0)))) (mRet (mOpA pTup (Qa (mLit .non) (Qa (mVar 3) (Qa (mVar 4) mNil))))) QA)
 (mRet (mOpA pTup (Qa (mOp2 pIx (mVar 3) (mOp1 pNeg (mLit (.int 1)))) (Qa (QH (mVar 3) Qy (Q0 (mOp1 pNeg (mLit (.int 1))))) (Qa (mVar 4) mNil))))))))
noncomputable def Ya:MF:=mDef 1 4 Qar
noncomputable def JV:MS:=(mSeq (mAsg (JO [(gSet 2),(gSet 3),(gSet 4)]) (Qr Ya (Qa (mVar 1) mNil)))
 (mSeq (mAsg (gSet 5) (mLit (.int 0)))
 (mSeq (mIf (Qj (mOp2 QeS (mVar 2) (mLit .non))) (mSeq (mIf (Qj (mOp2 pEq (mOp2 pIx (mVar 2) (mLit (.int 0))) (mLit (.str "many")))) (mRet (mLit .non)) QA)
 (mAsg (gSet 5) (mOp2 pIx (mVar 2) (mLit (.int 1))))) QA)
 (mSeq (mAsg (gSet 6) (mOp2 pIx (mOp2 pIx (mVar 0) (mOp2 pIx (mVar 1) (mLit (.int 0)))) (mVar 5)))
 (mSeq (mIf (Qj (mOp2 pIs (mVar 6) (mLit .non))) (mRet (mLit .non)) QA)
 (mSeq (mIf (Qj (mOp2 pEq (mOp2 pIx (mVar 6) (mLit (.int 1))) (mLit (.str "r")))) (mRet (mOpA pTup (Qa (mOp2 pIx (mVar 6) (mLit (.int 2))) (Qa (mLit (.str "r")) (Qa (mOp2 pAdd (mVar 3) (mOpA pTup (Qa (mOpA pTup (Qa (mLit (.str "one")) (Qa (mOp2 pIx (mVar 6) (mLit (.int 0))) mNil))) mNil))) (Qa (mVar 4) mNil)))))) QA)
 (mRet (mOpA pTup (Qa (mOp2 pIx (mVar 6) (mLit (.int 2))) (Qa (mLit (.str "l")) (Qa (mVar 3) (Qa (mOp2 pAdd (mOpA pTup (Qa (mOpA pTup (Qa (mLit (.str "one")) (Qa (mOp2 pIx (mVar 6) (mLit (.int 0))) mNil))) mNil)) (mVar 4)) mNil))))))))))))
noncomputable def Yg:MF:=mDef 2 5 JV
noncomputable def Yh:MS:=(mSeq (mAsg (gSet 11) (mOp2 pIx (mOp2 pIx (mVar 0) (mVar 9)) (mOp2 pIx (mVar 7) (mVar 8))))
 (mSeq (mIf (mOrT (Qj (mOp2 pIs (mVar 11) (mLit .non))) (Qj (mOp2 pEq (mVar 10) (mLit (.int 1000))))) (mRet (mLit .non)) QA)
 (mSeq (Jf (mVar 7) (mVar 8) (mOp2 pIx (mVar 11) (mLit (.int 0))))
 (mSeq (mAsg (gSet 9) (mOp2 pIx (mVar 11) (mLit (.int 2))))
 (mSeq (mAsg (gSet 8) (mOp2 pAdd (mVar 8) (mOp2 pIx (mOpA newL (Qa (mOp1 pNeg (mLit (.int 1))) (Qa (mLit (.int 1)) mNil))) (mOp1 pInt (mOp2 pEq (mOp2 pIx (mVar 11) (mLit (.int 1))) (mLit (.str "r")))))))
 (mAsg (gSet 10) (mOp2 pAdd (mVar 10) (mLit (.int 1)))))))))
noncomputable def Qco:MS:=(mSeq (mAsg (JO [(gSet 2),(gSet 3),(gSet 4),(gSet 5)]) (mVar 1))
 (mSeq (mAsg (JO [(gSet 6),(gSet 4),(gSet 5)]) (Qr Ya (Qa (mVar 1) mNil)))
 (mSeq (mIf (mOrT (Qj (mOp2 pIs (mVar 6) (mLit .non))) (Qj (mOp2 pEq (mOp2 pIx (mVar 6) (mLit (.int 0))) (mLit (.str "one"))))) (mRet (mLit .non)) QA)
 (mSeq (mAsg (gSet 7) (mOp1 Qcb (mOp2 pIx (mVar 6) (mLit (.int 1)))))
 (mSeq (mAsg (gSet 8) (mOp2 pIx (mOpA newL (Qa (mLit (.int 0)) (Qa (mOp2 pSub (mOp1 pLen (mVar 7)) (mLit (.int 1))) mNil))) (mOp1 pInt (mOp2 pEq (mVar 3) (mLit (.str "l"))))))
 (mSeq (mAsg (gSet 9) (mVar 2))
 (mSeq (mAsg (gSet 10) (mLit (.int 0)))
 (mSeq (Qds (QbN (Qj (mOp2 pLe (mLit (.int 0)) (mVar 8))) (Qj (mOp2 pLt (mVar 8) (mOp1 pLen (mVar 7))))) Yh)
 (mSeq (mIf (mOrT (Qj (mOp2 pNe (mVar 9) (mVar 2))) (Qj (mOp2 pNe (mOp2 pLt (mVar 8) (mLit (.int 0))) (mOp2 pEq (mVar 3) (mLit (.str "l")))))) (mRet (mLit .non)) QA)
 (mSeq (mAsg (gSet 12) (mOpA pTup (Qa (mLit (.str "many")) (Qa (mOp1 QZ (mVar 7)) (Qa (mOp2 pIx (mVar 6) (mLit (.int 2))) mNil)))))
 (mSeq (mIf (Qj (mOp2 pEq (mVar 3) (mLit (.str "r")))) (mRet (mOpA pTup (Qa (mVar 2) (Qa (mVar 3) (Qa (mOp2 pAdd (mVar 4) (mOpA pTup (Qa (mVar 12) mNil))) (Qa (mVar 5) mNil)))))) QA)
 (mRet (mOpA pTup (Qa (mVar 2) (Qa (mVar 3) (Qa (mVar 4) (Qa (mOp2 pAdd (mOpA pTup (Qa (mVar 12) mNil)) (mVar 5)) mNil)))))))))))))))))
noncomputable def Qbz:MF:=mDef 2 11 Qco
noncomputable def JD:MS:=(mSeq (mAsg (JO [(gSet 1),(gSet 2),(gSet 3),(gSet 4)]) (mVar 0))
 (mSeq (mAsg (JO [(gSet 5),(gSet 3),(gSet 4)]) (Qr Ya (Qa (mVar 0) mNil)))
 (mSeq (mIf (mOrT (Qj (mOp2 pIs (mVar 5) (mLit .non))) (mOrT (Qj (mOp2 pEq (mOp2 pIx (mVar 5) (mLit (.int 0))) (mLit (.str "one")))) (Qj (mOp2 pLt (mOp2 pIx (mVar 5) (mLit (.int 2))) (mLit (.int 1)))))) (mRet (mLit .non)) QA)
 (mSeq (mAsg (gSet 6) (mOp1 QZ (Yc (QX (mOp2 pIx (mVar 5) (mLit (.int 1)))) 1 [] (gSet 0) ZX (mOpA pTup (Qa (mLit (.str "one")) (Qa (mVar 0) mNil))))))
 (mSeq (mAsg (gSet 7) (mOpA pTup (Qa (mOpA pTup (Qa (mLit (.str "many")) (Qa (mOp2 pIx (mVar 5) (mLit (.int 1))) (Qa (mOp2 pSub (mOp2 pIx (mVar 5) (mLit (.int 2))) (mLit (.int 1))) mNil)))) mNil)))
 (mSeq (mIf (Qj (mOp2 pEq (mVar 2) (mLit (.str "r")))) (mRet (mOpA pTup (Qa (mVar 1) (Qa (mVar 2) (Qa (mVar 3) (Qa (mOp2 pAdd (mOp2 pAdd (mVar 6) (mVar 7)) (mVar 4)) mNil)))))) QA)
 (mRet (mOpA pTup (Qa (mVar 1) (Qa (mVar 2) (Qa (mOp2 pAdd (mOp2 pAdd (mVar 3) (mVar 7)) (mVar 6)) (Qa (mVar 4) mNil))))))))))))
noncomputable def YB:MF:=mDef 1 7 JD
noncomputable def Qgz:MS:=(mSeq (mAsg (gSet 3) (mVar 2))
 (mSeq (mIf (Qj (mOp2 pEq (mVar 0) (mLit (.str "r")))) (mAsg (gSet 3) (mOp2 pSub (mOp2 pSub (mOp1 pLen (mVar 1)) (mLit (.int 1))) (mVar 2))) QA)
 (mSeq (mIf (mOrT (Qj (mOp2 pLt (mVar 2) (mLit (.int 0)))) (mOrT (Qj (mOp2 pGe (mVar 2) (mOp1 pLen (mVar 1)))) (Qj (mOp2 pNe (mOp2 pIx (mOp2 pIx (mVar 1) (mVar 3)) (mLit (.int 0))) (mLit (.str "many")))))) (mRet (mLit .non)) QA)
 (mRet (mVar 3)))))
noncomputable def QbA:MF:=mDef 3 1 Qgz
noncomputable def Qas:MS:=(mSeq (mAsg (gSet 3) (mOp2 pIx (mOp2 pIx (mVar 0) (mVar 1)) (mLit (.int 1))))
 (mSeq (mAsg (gSet 4) (mOp2 pAdd (mVar 2) (mOp1 pLen (mVar 3))))
 (mSeq (mIf (mOrT (Qj (mOp2 pLt (mVar 2) (mLit (.int 0)))) (Qj (mOp2 pNe (QH (mVar 0) (Q0 (mVar 2)) (Q0 (mVar 4))) (mOp1 QZ (Yc (QX (mVar 3)) 1 [] (gSet 0) ZX (mOpA pTup (Qa (mLit (.str "one")) (Qa (mVar 0) mNil)))))))) (mRet (mLit .non)) QA)
 (mSeq (mAsg (gSet 5) (mOp1 Qcb (mVar 0)))
 (mSeq (Jf (mVar 5) (mVar 1) (mOpA pTup (Qa (mLit (.str "many")) (Qa (mVar 3) (Qa (mOp2 pAdd (mOp2 pIx (mOp2 pIx (mVar 0) (mVar 1)) (mLit (.int 2))) (mLit (.int 1))) mNil)))))
 (mRet (mOp1 QZ (mOp2 pAdd (QH (mVar 5) Qy (Q0 (mVar 2))) (QH (mVar 5) (Q0 (mVar 4)) Qy)))))))))
noncomputable def YF:MF:=mDef 3 3 Qas
noncomputable def YC:MS:=(mSeq (mAsg (gSet 3) (mOp2 pIx (mOp2 pIx (mVar 0) (mVar 1)) (mLit (.int 1))))
 (mSeq (mAsg (gSet 4) (mOp2 pIx (mOp2 pIx (mVar 0) (mVar 1)) (mLit (.int 2))))
 (mSeq (mIf (Qj (mVar 2)) (mSeq (mIf (mOrT (Qj (mOp2 pEq (mVar 1) (mLit (.int 0)))) (Qj (mOp2 pNe (mOp2 pIx (mVar 0) (mOp2 pSub (mVar 1) (mLit (.int 1)))) (mOpA pTup (Qa (mLit (.str "one")) (Qa (mOp2 pIx (mVar 3) (mOp1 pNeg (mLit (.int 1)))) mNil)))))) (mRet (mLit .non)) QA)
 (mSeq (mAsg (gSet 5) (mOpA pTup (Qa (mLit (.str "many")) (Qa (mOp2 pAdd (QH (mVar 3) (Q0 (mOp1 pNeg (mLit (.int 1)))) Qy) (QH (mVar 3) Qy (Q0 (mOp1 pNeg (mLit (.int 1)))))) (Qa (mVar 4) mNil)))))
 (mRet (mOp2 pAdd (mOp2 pAdd (QH (mVar 0) Qy (Q0 (mOp2 pSub (mVar 1) (mLit (.int 1))))) (mOpA pTup (Qa (mVar 5) (Qa (mOp2 pIx (mVar 0) (mOp2 pSub (mVar 1) (mLit (.int 1)))) mNil)))) (QH (mVar 0) (Q0 (mOp2 pAdd (mVar 1) (mLit (.int 1)))) Qy))))) QA)
 (mSeq (mIf (mOrT (Qj (mOp2 pEq (mOp2 pAdd (mVar 1) (mLit (.int 1))) (mOp1 pLen (mVar 0)))) (Qj (mOp2 pNe (mOp2 pIx (mVar 0) (mOp2 pAdd (mVar 1) (mLit (.int 1)))) (mOpA pTup (Qa (mLit (.str "one")) (Qa (mOp2 pIx (mVar 3) (mLit (.int 0))) mNil)))))) (mRet (mLit .non)) QA)
 (mSeq (mAsg (gSet 5) (mOpA pTup (Qa (mLit (.str "many")) (Qa (mOp2 pAdd (QH (mVar 3) (Q0 (mLit (.int 1))) Qy) (QH (mVar 3) Qy (Q0 (mLit (.int 1))))) (Qa (mVar 4) mNil)))))
 (mRet (mOp2 pAdd (mOp2 pAdd (QH (mVar 0) Qy (Q0 (mVar 1))) (mOpA pTup (Qa (mOp2 pIx (mVar 0) (mOp2 pAdd (mVar 1) (mLit (.int 1)))) (Qa (mVar 5) mNil)))) (QH (mVar 0) (Q0 (mOp2 pAdd (mVar 1) (mLit (.int 2)))) Qy))))))))
noncomputable def Z0:MF:=mDef 3 3 YC
noncomputable def YD:MS:=(mSeq (mAsg (gSet 4) (Qr QbA (Qa (mVar 1) (Qa (mVar 2) (Qa (mVar 3) mNil)))))
 (mSeq (mIf (Qj (mOp2 pIs (mVar 4) (mLit .non))) (mRet (mLit .non)) QA)
 (mSeq (mAsg (gSet 5) (mOp2 pEq (mVar 1) (mLit (.str "l"))))
 (mSeq (mIf (mOrT (Qj (mOp2 pEq (mVar 0) (mLit (.str "join")))) (Qj (mOp2 pEq (mVar 0) (mLit (.str "draw"))))) (mSeq (mAsg (gSet 6) (mOp2 pAdd (mVar 4) (mLit (.int 1))))
 (mSeq (mIf (Qj (mOp2 pEq (mOp2 pEq (mVar 0) (mLit (.str "draw"))) (mVar 5))) (mAsg (gSet 6) (mOp2 pSub (mVar 4) (mOp1 pLen (mOp2 pIx (mOp2 pIx (mVar 2) (mVar 4)) (mLit (.int 1)))))) QA)
 (mRet (Qr YF (Qa (mVar 2) (Qa (mVar 4) (Qa (mVar 6) mNil))))))) QA)
 (mRet (Qr Z0 (Qa (mVar 2) (Qa (mVar 4) (Qa (mOp2 pEq (mOp2 pEq (mVar 0) (mLit (.str "roll"))) (mVar 5)) mNil)))))))))
noncomputable def Ze:MF:=mDef 4 3 YD
noncomputable def Yx:MS:=(mSeq (mIf (Qj (mOp2 pEq (mVar 0) (mLit (.str "pad")))) (mRet (mOp2 pIx (mOpA newL (Qa (mOp2 pAdd (mVar 2) (mOpA pTup (Qa (mOpA pTup (Qa (mLit (.str "one")) (Qa (mLit (.int 0)) mNil))) mNil))) (Qa (mOp2 pAdd (mOpA pTup (Qa (mOpA pTup (Qa (mLit (.str "one")) (Qa (mLit (.int 0)) mNil))) mNil)) (mVar 2)) mNil))) (mOp1 pInt (mOp2 pEq (mVar 1) (mLit (.str "l")))))) QA)
 (mSeq (mIf (mOrT (Qj (mOp2 pEq (mOp1 pLen (mVar 2)) (mLit (.int 0)))) (Qj (mOp2 pNe (mOp2 pIx (mVar 2) (mOp2 pIx (mOpA newL (Qa (mOp1 pNeg (mLit (.int 1))) (Qa (mLit (.int 0)) mNil))) (mOp1 pInt (mOp2 pEq (mVar 1) (mLit (.str "l")))))) (mOpA pTup (Qa (mLit (.str "one")) (Qa (mLit (.int 0)) mNil)))))) (mRet (mLit .non)) QA)
 (mRet (mOp2 pIx (mOpA newL (Qa (QH (mVar 2) Qy (Q0 (mOp1 pNeg (mLit (.int 1))))) (Qa (QH (mVar 2) (Q0 (mLit (.int 1))) Qy) mNil))) (mOp1 pInt (mOp2 pEq (mVar 1) (mLit (.str "l"))))))))
noncomputable def Zd:MF:=mDef 3 0 Yx
noncomputable def Qat:MS:=(mSeq (mAsg (JO [(gSet 3),(gSet 4),(gSet 5),(gSet 6)]) (mVar 1))
 (mSeq (mIf (Qj (mOp2 pEq (mOp2 pIx (mVar 2) (mLit (.int 0))) (mLit (.str "step")))) (mRet (Qr Yg (Qa (mVar 0) (Qa (mVar 1) mNil)))) QA)
 (mSeq (mIf (Qj (mOp2 pEq (mOp2 pIx (mVar 2) (mLit (.int 0))) (mLit (.str "over")))) (mRet (Qr Qbz (Qa (mVar 0) (Qa (mVar 1) mNil)))) QA)
 (mSeq (mIf (Qj (mOp2 pEq (mOp2 pIx (mVar 2) (mLit (.int 0))) (mLit (.str "open")))) (mRet (Qr YB (Qa (mVar 1) mNil))) QA)
 (mSeq (mAsg (gSet 7) (mOp2 pIx (mOpA newL (Qa (mVar 6) (Qa (mVar 5) mNil))) (mOp1 pInt (mOp2 pEq (mOp2 pIx (mVar 2) (mLit (.int 1))) (mLit (.str "l"))))))
 (mSeq (mIf (Qj (mOp2 pEq (mOp1 pLen (mVar 2)) (mLit (.int 3)))) (mAsg (gSet 8) (Qr Ze (Qa (mOp2 pIx (mVar 2) (mLit (.int 0))) (Qa (mOp2 pIx (mVar 2) (mLit (.int 1))) (Qa (mVar 7) (Qa (mOp2 pIx (mVar 2) (mLit (.int 2))) mNil)))))) (mAsg (gSet 8) (Qr Zd (Qa (mOp2 pIx (mVar 2) (mLit (.int 0))) (Qa (mOp2 pIx (mVar 2) (mLit (.int 1))) (Qa (mVar 7) mNil))))))
 (mSeq (mIf (Qj (mOp2 pIs (mVar 8) (mLit .non))) (mRet (mLit .non)) QA)
 (mSeq (mIf (Qj (mOp2 pEq (mOp2 pIx (mVar 2) (mLit (.int 1))) (mLit (.str "l")))) (mRet (mOpA pTup (Qa (mVar 3) (Qa (mVar 4) (Qa (mVar 8) (Qa (mVar 6) mNil)))))) QA)
 (mRet (mOpA pTup (Qa (mVar 3) (Qa (mVar 4) (Qa (mVar 5) (Qa (mVar 8) mNil))))))))))))))
noncomputable def Y4:MF:=mDef 3 6 Qat
noncomputable def Jl:MS:=(mAsg (gSet 1) (mOp2 pAdd (mVar 1) (Yc (QX (mOpA newL (Qa (mLit (.str "join")) (Qa (mLit (.str "draw")) (Qa (mLit (.str "roll")) (Qa (mLit (.str "back")) mNil)))))) 1 [2,4] (gSet 0) ZX (mOpA pTup (Qa (mVar 0) (Qa (mVar 1) (Qa (mVar 2) mNil)))))))
noncomputable def YG:MS:=(mSeq (mAsg (gSet 3) (mOp2 pIx (mOpA newL (Qa (mOp2 pIx (mVar 0) (mLit (.int 3))) (Qa (mOp2 pIx (mVar 0) (mLit (.int 2))) mNil))) (mOp1 pInt (mOp2 pEq (mVar 2) (mLit (.str "l"))))))
 (mFor (Zi (mOp2 pAdd (mOp1 pLen (mVar 3)) (mLit (.int 1)))) (gSet 4) Jl))
noncomputable def Qe0:MS:=(mSeq (mAsg (gSet 1) (mOpA newL (Qa (mOpA pTup (Qa (mLit (.str "step")) mNil)) (Qa (mOpA pTup (Qa (mLit (.str "over")) mNil)) (Qa (mOpA pTup (Qa (mLit (.str "open")) mNil)) (Qa (mOpA pTup (Qa (mLit (.str "trim")) (Qa (mLit (.str "l")) mNil))) (Qa (mOpA pTup (Qa (mLit (.str "trim")) (Qa (mLit (.str "r")) mNil))) (Qa (mOpA pTup (Qa (mLit (.str "pad")) (Qa (mLit (.str "l")) mNil))) (Qa (mOpA pTup (Qa (mLit (.str "pad")) (Qa (mLit (.str "r")) mNil))) mNil)))))))))
 (mSeq (mFor (QX (mOpA newL (Qa (mLit (.str "l")) (Qa (mLit (.str "r")) mNil)))) (gSet 2) YG)
 (mRet (mVar 1))))
noncomputable def Qau:MF:=mDef 1 4 Qe0
noncomputable def Qcp:MS:=(mSeq (mAsg (gSet 3) (mLit .non))
 (mSeq (mAsg (gSet 4) (mLit .non))
 (mSeq (mTry (mAsg (gSet 4) (Qr JT (Qa (mVar 0) (Qa (mVar 1) (Qa (mVar 2) mNil))))) [⟨[0,1,2,3,4,5,6,7,8,9,10],[],some 5,(mAsg (gSet 3) (mVar 5))⟩])
 (mSeq (mIf (Qj (mOp2 pIs (mVar 3) (mLit .non))) (mRet (mOpA pTup (Qa (mLit (.str "told")) (Qa (mVar 4) mNil)))) QA)
 (mSeq (mIf (Qj (Qr Qgy (Qa (mVar 3) (Qa (mLit (.str "move")) mNil)))) (mRet (mOpA pTup (Qa (mLit (.str "move")) (Qa (mLit (.int 0)) mNil)))) QA)
 (mSeq (mIf (Qj (Qr Qgy (Qa (mVar 3) (Qa (mLit (.str "shape")) mNil)))) (mRet (mOpA pTup (Qa (mLit (.str "shape")) (Qa (mLit (.int 0)) mNil)))) QA)
 (mRet (mOpA pTup (Qa (mLit (.str "other")) (Qa (mLit (.int 0)) mNil))))))))))
noncomputable def ZQ:MF:=mDef 3 3 Qcp
noncomputable def QcL:MS:=(mSeq (mAsg (gSet 4) (Qr Yu (Qa (mVar 0) (Qa (mVar 1) mNil))))
 (mSeq (mAsg (gSet 5) (mOpA newL (Qa (mOpA pTup (Qa (mLit (.str "step")) (Qa (mLit (.int 0)) mNil))) (Qa (mOpA pTup (Qa (mLit (.str "stop")) mNil)) (Qa (mOpA pTup mNil) (Qa (mLit .non) (Qa (mLit (.str "step")) (Qa (mOpA newL (Qa (mLit (.str "step")) mNil)) (Qa (mOpA pTup (Qa (mLit (.str "join")) (Qa (mLit (.str "l")) mNil))) (Qa (mOpA pTup (Qa (mLit (.str "join")) (Qa (mLit (.str "x")) (Qa (mLit (.int 0)) mNil)))) (Qa (mOpA pTup (Qa (mLit (.str "roll")) (Qa (mLit (.str "l")) (Qa (mOp1 pNeg (mLit (.int 1))) mNil)))) mNil)))))))))))
 (mSeq (mAsg (gSet 5) (mOp2 pAdd (mVar 5) (mOpA newL (Qa (mOpA pTup (Qa (mLit (.str "draw")) (Qa (mLit (.str "r")) (Qa (mLit .non) mNil)))) (Qa (mOpA pTup (Qa (mLit (.str "trim")) mNil)) (Qa (mOpA pTup (Qa (mLit (.str "trim")) (Qa (mLit (.str "l")) (Qa (mLit (.int 0)) mNil)))) (Qa (mOpA pTup (Qa (mLit (.str "pad")) (Qa (mLit (.int 0)) mNil))) (Qa (mOpA pTup (Qa (mLit (.int 0)) mNil)) (Qa (mOpA pTup (Qa (mLit (.str "open")) (Qa (mLit (.str "r")) mNil))) (Qa (mOpA pTup (Qa (mLit (.str "over")) (Qa (mLit (.str "l")) (Qa (mLit (.int 0)) mNil)))) mNil))))))))))
 (mSeq (mIf (Qj (mOp2 pNe (Qr ZQ (Qa (mVar 2) (Qa (mVar 3) (Qa (mOp2 pIx (mVar 5) (mOp2 pMod (mVar 4) (mLit (.int 16)))) mNil)))) (mOpA pTup (Qa (mLit (.str "move")) (Qa (mLit (.int 0)) mNil))))) (mRet (mLit (.bl false))) QA)
 (mSeq (mAsg (JO [(gSet 6),(gSet 7),(gSet 8),(gSet 9)]) (mVar 3))
 (mSeq (mAsg (gSet 10) (mOp1 pLen (mOp2 pIx (Qa9 [11] "table" (mVar 2)) (mLit (.int 0)))))
 (mSeq (mAsg (gSet 11) (mOp2 pIx (mOpA newL (Qa (mOpA pTup (Qa (mLit (.str "one")) (Qa (mOp2 pAdd (mVar 10) (mOp2 pMod (mOp2 QR (mVar 4) (mLit (.int 16))) (mLit (.int 3)))) mNil))) (Qa (mOpA pTup (Qa (mLit (.str "many")) (Qa (mOpA pTup (Qa (mLit (.int 0)) (Qa (mVar 10) mNil))) (Qa (mOp2 pMod (mOp2 QR (mVar 4) (mLit (.int 48))) (mLit (.int 2))) mNil)))) mNil))) (mOp2 pMod (mOp2 QR (mVar 4) (mLit (.int 96))) (mLit (.int 2)))))
 (mSeq (mIf (Qj (mOp2 pEq (mOp2 pMod (mOp2 QR (mVar 4) (mLit (.int 192))) (mLit (.int 4))) (mLit (.int 0)))) (mAsg (gSet 3) (mOpA pTup (Qa (mOp2 pAdd (mOp1 pLen (Qa9 [11] "table" (mVar 2))) (mOp2 pMod (mOp2 QR (mVar 4) (mLit (.int 768))) (mLit (.int 2)))) (Qa (mVar 7) (Qa (mVar 8) (Qa (mVar 9) mNil)))))) (mIf (Qj (mOp2 pEq (mOp2 pMod (mOp2 QR (mVar 4) (mLit (.int 192))) (mLit (.int 4))) (mLit (.int 1)))) (mAsg (gSet 3) (mOpA pTup (Qa (mVar 6) (Qa (mVar 7) (Qa (mOp2 pAdd (mOp1 QZ (mVar 8)) (mOpA pTup (Qa (mVar 11) mNil))) (Qa (mVar 9) mNil)))))) (mIf (Qj (mOp2 pEq (mOp2 pMod (mOp2 QR (mVar 4) (mLit (.int 192))) (mLit (.int 4))) (mLit (.int 2)))) (mAsg (gSet 3) (mOpA pTup (Qa (mVar 6) (Qa (mVar 7) (Qa (mVar 8) (Qa (mOp2 pAdd (mOpA pTup (Qa (mVar 11) mNil)) (mOp1 QZ (mVar 9))) mNil)))))) (mAsg (gSet 3) (Qr Yw (Qa (mOp2 QR (mVar 4) (mLit (.int 768))) (Qa (mVar 3) mNil)))))))
 (mRet (mOp2 pEq (Qr ZQ (Qa (mVar 2) (Qa (mVar 3) (Qa (mOp2 pIx (mOpA newL (Qa (mOpA pTup (Qa (mLit (.str "step")) mNil)) (Qa (mOp2 pIx (mVar 5) (mOp2 pMod (mVar 4) (mLit (.int 16)))) (Qa (mOpA pTup (Qa (mLit (.str "pad")) (Qa (mLit (.str "l")) mNil))) mNil)))) (mOp2 pMod (mOp2 QR (mVar 4) (mLit (.int 3))) (mLit (.int 3)))) mNil)))) (mOpA pTup (Qa (mLit (.str "shape")) (Qa (mLit (.int 0)) mNil)))))))))))))
noncomputable def Qbd:MF:=mDef 4 8 QcL
noncomputable def YH:MS:=(mSeq (mAsg (gSet 10) (Qr Y4 (Qa (mVar 5) (Qa (mVar 8) (Qa (mVar 9) mNil)))))
 (mSeq (mAsg (gSet 11) (mOpA pTup (Qa (mLit (.str "told")) (Qa (mVar 10) mNil))))
 (mSeq (mIf (Qj (mOp2 pIs (mVar 10) (mLit .non))) (mAsg (gSet 11) (mOpA pTup (Qa (mLit (.str "move")) (Qa (mLit (.int 0)) mNil)))) QA)
 (mIf (Ys (Qj (Qr (Yb 6) (Qa (Qr ZQ (Qa (mVar 6) (Qa (mVar 7) (Qa (mVar 9) mNil)))) (Qa (mVar 11) mNil))))) (mRet (mLit (.bl false))) QA))))
noncomputable def Qe1:MS:=(mSeq (mAsg (gSet 2) (Qr Yu (Qa (mVar 0) (Qa (mVar 1) mNil))))
 (mSeq (mAsg (gSet 3) (mOp2 pAdd (mLit (.int 1)) (mOp2 pMod (mVar 2) (mLit (.int 4)))))
 (mSeq (mAsg (gSet 4) (mOp2 pAdd (mLit (.int 1)) (mOp2 pMod (mOp2 QR (mVar 2) (mLit (.int 4))) (mLit (.int 4)))))
 (mSeq (mAsg (gSet 5) (Qr QcI (Qa (mVar 0) (Qa (mVar 1) (Qa (mVar 3) (Qa (mVar 4) mNil))))))
 (mSeq (mAsg (gSet 6) (QhR 11 Z8 (Qa (mVar 5) mNil)))
 (mSeq (mAsg (gSet 7) (Qr QcK (Qa (mVar 0) (Qa (mVar 1) (Qa (mVar 3) (Qa (mVar 4) mNil))))))
 (mSeq (mAsg (gSet 8) (Qr QaQ (Qa (mVar 7) mNil)))
 (mSeq (mFor (QX (Qr Qau (Qa (mVar 8) mNil))) (gSet 9) YH)
 (mSeq (mAsg (gSet 12) (mOp2 pIx (Qr Qau (Qa (mVar 8) mNil)) (mOp2 pMod (mOp2 QR (mVar 2) (mLit (.int 16))) (mLit (.int 7)))))
 (mSeq (mIf (Qj (mOp2 pNe (Qr ZQ (Qa (mVar 6) (Qa (mVar 8) (Qa (mVar 12) mNil)))) (Qr ZQ (Qa (mVar 6) (Qa (mVar 7) (Qa (mVar 12) mNil)))))) (mRet (mLit (.bl false))) QA)
 (mSeq (mIf (Ys (Qj (Qr Qbd (Qa (mVar 0) (Qa (mVar 1) (Qa (mVar 6) (Qa (mVar 7) mNil))))))) (mRet (mLit (.bl false))) QA)
 (mRet (Qr (Yb 6) (Qa (Qr QaQ (Qa (mVar 7) mNil)) (Qa (mVar 8) mNil)))))))))))))))
noncomputable def QcM:MF:=mDef 2 11 Qe1
noncomputable def Qd9:MS:=(mIf (Ys (Qj (Qr QcM (Qa (mVar 0) (Qa (mVar 1) mNil))))) (mRet (mLit (.bl false))) QA)
noncomputable def QlB:MS:=(mSeq (mAsg (gSet 1) (mOpA newL (Qa (mLit (.int 0)) mNil)))
 (mSeq (mFor (Zi (mOp2 pAdd (mLit (.int 1)) (mOp2 QR (mOp1 pLen (QH (mVar 0) Qy (Q0 (mLit (.int 60))))) (mLit (.int 40))))) (gSet 2) Qd9)
 (mRet (mLit (.bl true)))))
noncomputable def QjP:MF:=mDef 1 2 QlB
structure Keeps(S:List Nat)(g g':G):Prop where
 len:g.length<=g'.length
 at':∀n o,n∉S->g[n]?=some o->g'[n]?=some o
theorem Keeps.refl{S:List Nat}{g:G}:Keeps S g g:=⟨Ul _,λ_ _ _ h=>h⟩
theorem Keeps.trans{S:List Nat}{g g1 g2:G}(a:Keeps S g g1)(b:Keeps S g1 g2):Keeps S g g2:=⟨Uw a.len b.len,λn o h e=>b.at' n o h (a.at' n o h e)⟩
theorem Keeps.mono{S T:List Nat}{g g1:G}(a:Keeps S g g1)(h:∀n∈S,n∈T):Keeps T g g1:=⟨a.len,λn o q e=>a.at' n o (λz=>q (h n z)) e⟩
theorem Keeps.all{S:List Nat}{g g1:G}(a:Keeps [] g g1):Keeps S g g1:=a.mono (by simp)
theorem Keeps.push{S:List Nat}{g:G}(o:GO):Keeps S g (g++[o]):=⟨by simp,λn u _ e=>by
 have hl:n<g.length:=(Uf.mp e).1
 rw[UC hl];exact e⟩
theorem Keeps.set{g:G}(n:Nat)(o:GO):Keeps [n] g (g.set n o):=⟨by simp,λm u h e=>by
 rw[Uq (λz=>h (by simp[z]))];exact e⟩
structure KeepsN(k:Nat)(S:List Nat)(g g':G):Prop where
 len:g.length<=g'.length
 at':∀n o,n<k->n∉S->g[n]?=some o->g'[n]?=some o
theorem KeepsN.refl{k:Nat}{S:List Nat}{g:G}:KeepsN k S g g:=⟨Ul _,λ_ _ _ _ h=>h⟩
theorem KeepsN.trans{k:Nat}{S:List Nat}{g g1 g2:G}(a:KeepsN k S g g1)(b:KeepsN k S g1 g2):KeepsN k S g g2:=⟨Uw a.len b.len,λn o l h e=>b.at' n o l h (a.at' n o l h e)⟩
theorem Keeps.n{k:Nat}{S T:List Nat}{g g1:G}(a:Keeps S g g1)(h:∀n∈S,n<k->n∈T):KeepsN k T g g1:=⟨a.len,λn o l q e=>a.at' n o (λz=>q (h n z l)) e⟩
theorem KeepsN.mono{j k:Nat}{S T:List Nat}{g g1:G}(a:KeepsN k S g g1)(hj:j<=k)(h:∀n∈S,n<j->n∈T):KeepsN j T g g1:=⟨a.len,λn o l q e=>a.at' n o (by omega) (λz=>q (h n z l)) e⟩
theorem KeepsN.keeps{S:List Nat}{g g1:G}(a:KeepsN g.length S g g1):Keeps S g g1:=⟨a.len,λn o q e=>a.at' n o (Uf.mp e).1 q e⟩
theorem Qo{g:G}(o:GO):(g++[o])[g.length]?=some o:=by simp
theorem Yq{g:G}{n:Nat}{o:GO}(h:g[n]?=some o):n<g.length:=(Uf.mp h).1
theorem Z4{g:G}{n:Nat}{o u:GO}(h:g[n]?=some o):(g.set n u)[n]?=some u:=by rw[UX (Yq h)]
noncomputable def QjQ:Out->Prop
 |.rt _ _=>True
 |.raise _ _ _=>True
 |.stuck=>True
 |_=>False
theorem QaR{src:Src}{t:MG}{body:MS}{n:Nat}(I:Nat->S3->G->Prop)(R:Out->Prop)(step:∀i σ g,i<n->I i σ g->∃d σ1,src.at' g i=some (some d)/\t d σ=some σ1/\((∃σ2 g2,(body σ1 g=.nx σ2 g2\/body σ1 g=.ct σ2 g2)/\I (i+1) σ2 g2)\/(QjQ (body σ1 g)/\R (body σ1 g))))(stop:∀σ g,I n σ g->src.at' g n=some none):∀(f i:Nat)(σ:S3)(g:G),n-i<f->i<=n->I i σ g->(∃σ' g',forL src t body f i σ g=.nx σ' g'/\I n σ' g')\/(QjQ (forL src t body f i σ g)/\R (forL src t body f i σ g))
 |0,_,_,_,h,_,_=>by omega
 |f+1,i,σ,g,hf,hi,h=>by
  unfold forL
  by_cases e:i=n
  ·subst e
   rw[stop σ g h]
   exact .inl ⟨σ,g,rfl,h⟩
  ·obtain⟨d,σ1,h1,h2,h3⟩:=step i σ g (by omega) h
   rw[h1]
   dsimp only
   rw[h2]
   dsimp only
   rcases h3 with⟨σ2,g2,h3|h3,h4⟩|⟨h3,h4⟩
   ·rw[h3];exact QaR I R step stop f (i+1) σ2 g2 (by omega) (by omega) h4
   ·rw[h3];exact QaR I R step stop f (i+1) σ2 g2 (by omega) (by omega) h4
   ·cases hb:body σ1 g with
    |rt d g'=>rw[hb]at h4;exact .inr ⟨trivial,h4⟩
    |raise x σ' g'=>rw[hb]at h4;exact .inr ⟨trivial,h4⟩
    |nx _ _=>rw[hb]at h3;exact h3.elim
    |bk _ _=>rw[hb]at h3;exact h3.elim
    |ct _ _=>rw[hb]at h3;exact h3.elim
    |stuck=>rw[hb]at h4;exact .inr ⟨trivial,h4⟩
theorem QbB{t:MG}{body:MS}{lo:Int}{n:Nat}{σ:S3}{g:G}(I:Nat->S3->G->Prop)(h0:I 0 σ g)(step:∀i σ g,i<n->I i σ g->∃σ1 σ2 g2,t (.int (lo+i)) σ=some σ1/\body σ1 g=.nx σ2 g2/\I (i+1) σ2 g2):∃σ' g',forL (Zw lo n) t body (n+1) 0 σ g=.nx σ' g'/\I n σ' g':=by
 have:=QaR (src:=Zw lo n) (t:=t) (body:=body) (n:=n) I (λ_=>False) (λi σ g hi h=>by
  obtain⟨σ1,σ2,g2,a,b,c⟩:=step i σ g hi h
  exact⟨.int (lo+i),σ1,by simp[Zw,hi],a,.inl ⟨σ2,g2,.inl b,c⟩⟩) (λσ g _=>by simp[Zw]) (n+1) 0 σ g (by omega) (by omega) h0
 rcases this with h|h
 ·exact h
 ·exact h.2.elim
theorem Qe2{t:MG}{body:MS}{ds:List D}{σ:S3}{g:G}(I:Nat->S3->G->Prop)(R:Out->Prop)(h0:I 0 σ g)(step:∀i d σ g,ds[i]?=some d->I i σ g->∃σ1,t d σ=some σ1/\((∃σ2 g2,body σ1 g=.nx σ2 g2/\I (i+1) σ2 g2)\/(QjQ (body σ1 g)/\R (body σ1 g)))):
  (∃σ' g',forL ⟨λ_ i=>some ds[i]?,ds.length⟩ t body (ds.length+1) 0 σ g=.nx σ' g'/\I ds.length σ' g')\/(QjQ (forL ⟨λ_ i=>some ds[i]?,ds.length⟩ t body (ds.length+1) 0 σ g)/\R (forL ⟨λ_ i=>some ds[i]?,ds.length⟩ t body (ds.length+1) 0 σ g)) :=
 QaR (src:=⟨λ_ i=>some ds[i]?,ds.length⟩) (t:=t) (body:=body) (n:=ds.length) I R (λi σ g hi h=>by
  obtain⟨σ1,a,b⟩:=step i ds[i] σ g (by simp[hi]) h
  refine⟨ds[i],σ1,by simp[hi],a,?_⟩
  rcases b with⟨σ2,g2,b,c⟩|b
  ·exact .inl ⟨σ2,g2,.inl b,c⟩
  ·exact .inr b) (λσ g _=>by simp) (ds.length+1) 0 σ g (by omega) (by omega) h0
theorem QlC{src:Src}{t:MG}{body:MS}{n:Nat}{σ:S3}{g:G}(hn:src.top=n)(I:Nat->S3->G->Prop)(h0:I 0 σ g)(step:∀i σ g,i<n->I i σ g->∃d σ1 σ2 g2,src.at' g i=some (some d)/\t d σ=some σ1/\body σ1 g=.nx σ2 g2/\I (i+1) σ2 g2)(stop:∀σ g,I n σ g->src.at' g n=some none):∃σ' g',forL src t body (src.top+1) 0 σ g=.nx σ' g'/\I n σ' g':=by
 rw[hn]
 have:=QaR (src:=src) (t:=t) (body:=body) (n:=n) I (λ_=>False) (λi σ g hi h=>by
  obtain⟨d,σ1,σ2,g2,a,b,c,e⟩:=step i σ g hi h
  exact⟨d,σ1,a,b,.inl ⟨σ2,g2,.inl c,e⟩⟩) stop (n+1) 0 σ g (by omega) (by omega) h0
 rcases this with h|h
 ·exact h
 ·exact h.2.elim
theorem Yy{src:Src}{t:MG}{c:MT}{e:ME}{n:Nat}(I:Nat->S3->G->List D->Prop)(step:∀i σ g acc,i<n->I i σ g acc->∃d σ1 g1,src.at' g i=some (some d)/\t d σ=some σ1/\((∃y g2,c σ1 g=.ok true g1/\e σ1 g1=.ok y g2/\I (i+1) σ1 g2 (acc++[y]))\/(c σ1 g=.ok false g1/\I (i+1) σ1 g1 acc)))(stop:∀σ g acc,I n σ g acc->src.at' g n=some none):∀(f i:Nat)(σ:S3)(g:G)(acc:List D),n-i<f->i<=n->I i σ g acc->∃ds σ' g',Jq src t c e f i σ g acc=.ok ds g'/\I n σ' g' ds
 |0,_,_,_,_,h,_,_=>by omega
 |f+1,i,σ,g,acc,hf,hi,h=>by
  unfold Jq
  by_cases q:i=n
  ·subst q
   rw[stop σ g acc h]
   exact⟨acc,σ,g,rfl,h⟩
  ·obtain⟨d,σ1,g1,h1,h2,h3⟩:=step i σ g acc (by omega) h
   rw[h1]
   dsimp only
   rw[h2]
   dsimp only
   rcases h3 with⟨y,g2,h3,h4,h5⟩|⟨h3,h5⟩
   ·rw[h3];dsimp only;rw[Uh rfl,h4];exact Yy I step stop f (i+1) σ1 g2 _ (by omega) (by omega) h5
   ·rw[h3];dsimp only;rw[Um Uc];exact Yy I step stop f (i+1) σ1 g1 _ (by omega) (by omega) h5
theorem Qhb{ds:List D}{e:ME}{no:Nat}{σ:S3}{g:G}{f:D->D}(hz:ds.length<=SZ)(he:∀d∈ds,∀g1,Keeps [] g g1->∃g2,e ((List.replicate (no+1) none++σ).set 0 (some d)) g1=.ok (f d) g2/\Keeps [] g1 g2):
  ∃g',Jq ⟨λ_ i=>some ds[i]?,ds.length⟩ (gSet 0) ZX e (ds.length+1) 0 (List.replicate (no+1) none++σ) g []=.ok (ds.map f) g'/\Keeps [] g g':=by
 obtain⟨xs,σ',g',h1,h2,h3,h4⟩:=Yy (src:=⟨λ_ i=>some ds[i]?,ds.length⟩) (t:=gSet 0) (c:=ZX) (e:=e) (n:=ds.length)
  (λi σ' g1 acc=>acc=(ds.take i).map f/\Keeps [] g g1/\∃u,σ'=(List.replicate (no+1) none++σ).set 0 u) (λi σ' g1 acc hi h=>by
   obtain⟨h1,h2,u,h3⟩:=h
   obtain⟨g2,k1,k2⟩:=he ds[i] (UR hi) g1 h2
   refine⟨ds[i],_,g1,by simp[hi],rfl,.inl ⟨f ds[i],g2,rfl,?_,?_,h2.trans k2,some ds[i],?_⟩⟩
   ·subst h3;rw[R0];exact k1
   ·rw[h1,UT hi,U1];rfl
   ·subst h3;rw[R0]) (λσ g acc _=>by simp) (ds.length+1) 0 (List.replicate (no+1) none++σ) g [] (by omega) (by omega) ⟨by simp,.refl,none,by simp[UM]⟩
 refine⟨g',?_,h3⟩
 rw[h1,h2,TN]
noncomputable def JE(d:D)(n:Int):Bool:=match d with
 |.int i=>decide (0<=i/\i<n)
 |_=>false
noncomputable def Qnd:D->Bool
 |.int _=>true
 |_=>false
theorem Y5(d:D)(n:Int)(g:G)(t:Ty)(_:tyOf g d=some t)(hp:Qnd d=true:=by rfl):QO [d,.int n] g=.ok (.bl (JE d n)) g:=by
 cases d with
 |int i =>
  have c:Qdr pLe pLt (mLit (.int 0)) (mVar 0) (mVar 1) [some (.int i),some (.int n)] g=.ok (.bl (decide (0<=i/\i<n))) g:=by
   unfold Qdr
   rw[show mLit (D.int 0) [some (D.int i),some (D.int n)] g=.ok (.int 0) g from rfl,Res.bind_ok,show mVar 0 [some (D.int i),some (D.int n)] g=.ok (.int i) g from rfl,Res.bind_ok,show pLe (.int 0) (.int i) g=.ok (.bl (decide (0<=i))) g from rfl,Res.bind_ok]
   by_cases h0:0<=i
   ·rw[Uy h0]
    show Res.ok (D.bl (decide (i<n))) g=_
    by_cases h1:i<n
    ·rw[Uy h1,Uy ⟨h0,h1⟩]
    ·rw[Uo h1,Uo λz=>h1 z.2]
   ·rw[Uo h0,Uo λz=>h0 z.1]
  have a1:Qr JB (Qa (mVar 0) mNil) [some (.int i),some (.int n)] g=.ok (.bl true) g:=rfl
  show(match mRet (mAnd (Qr JB (Qa (mVar 0) mNil)) (Qdr pLe pLt (mLit (.int 0)) (mVar 0) (mVar 1))) [some (.int i),some (.int n)] g with
   |.nx _ g'=>Res.ok D.non g'
   |.rt d g'=>.ok d g'
   |.raise e _ g'=>.raise e g'
   |_=>.stuck)=_
  unfold mRet mAnd
  rw[a1,Res.bind_ok]
  dsimp only
  rw[Uh rfl,c]
  rfl
 |_=>cases hp
theorem s_l:Str.ofString "l" = ⟨#[108]⟩:=by decide +kernel
theorem s_r:Str.ofString "r" = ⟨#[114]⟩:=by decide +kernel
noncomputable def wayD:D->Bool
 |.str s=>s == ⟨#[108]⟩ || s == ⟨#[114]⟩
 |_=>false
noncomputable def entD(d:D)(states signs:Int):Bool:=match d with
 |.non=>true
 |.tup [a,b,c]=>JE a signs && wayD b && JE c states
 |_=>false
def thingD(_:G)(d:D):Prop:=d=.non\/∃(i j:Int)(w:Str),d=.tup [.int i,.str w,.int j]
theorem QlD(s:Str)(g:G):pIn false (.str s) (.tup [.str ⟨#[108]⟩,.str ⟨#[114]⟩]) g=.ok (.bl (wayD (.str s))) g:=by
 show Res.ok (D.bl ((⟨#[108]⟩ == s) || ((⟨#[114]⟩ == s) || false))) g=.ok (.bl ((s == ⟨#[108]⟩) || (s == ⟨#[114]⟩))) g
 rw[show((⟨#[108]⟩:Str) == s)=(s == ⟨#[108]⟩) from BEq.comm,show((⟨#[114]⟩:Str) == s)=(s == ⟨#[114]⟩) from BEq.comm,RO]
theorem QfE(d:D)(states signs:Int)(g:G)(h:thingD g d):YX [d,.int states,.int signs] g=.ok (.bl (entD d states signs)) g:=by
 rcases h with rfl|⟨i,j,w,rfl⟩
 ·rfl
 ·have a1:Qr QO (Qa (mOp2 pIx (mVar 0) (mLit (.int 0))) (Qa (mVar 2) mNil)) [some (.tup [.int i,.str w,.int j]),some (.int states),some (.int signs)] g=.ok (.bl (JE (.int i) signs)) g:=Y5 (.int i) signs g .int rfl
  have a3:Qr QO (Qa (mOp2 pIx (mVar 0) (mLit (.int 2))) (Qa (mVar 1) mNil)) [some (.tup [.int i,.str w,.int j]),some (.int states),some (.int signs)] g=.ok (.bl (JE (.int j) states)) g:=Y5 (.int j) states g .int rfl
  have a2:mOp2 (pIn false) (mOp2 pIx (mVar 0) (mLit (.int 1))) (mOpA pTup (Qa (mLit (.str "l")) (Qa (mLit (.str "r")) mNil))) [some (.tup [.int i,.str w,.int j]),some (.int states),some (.int signs)] g=.ok (.bl (wayD (.str w))) g:=by
   rw[s_l,s_r];exact QlD w g
  show(match (mRet (mAnd (Qr QO (Qa (mOp2 pIx (mVar 0) (mLit (.int 0))) (Qa (mVar 2) mNil))) (mAnd (mOp2 (pIn false) (mOp2 pIx (mVar 0) (mLit (.int 1))) (mOpA pTup (Qa (mLit (.str "l")) (Qa (mLit (.str "r")) mNil)))) (Qr QO (Qa (mOp2 pIx (mVar 0) (mLit (.int 2))) (Qa (mVar 1) mNil)))))) [some (.tup [.int i,.str w,.int j]),some (.int states),some (.int signs)] g with
   |.nx _ g'=>Res.ok D.non g'
   |.rt d g'=>.ok d g'
   |.raise e _ g'=>.raise e g'
   |_=>.stuck)=.ok (.bl (JE (.int i) signs && wayD (.str w) && JE (.int j) states)) g
  unfold mRet mAnd
  rw[a1,Res.bind_ok]
  dsimp only
  cases JE (.int i) signs
  ·rfl
  ·rw[Uh rfl,a2,Res.bind_ok]
   dsimp only
   cases wayD (.str w)
   ·rfl
   ·rw[Uh rfl,a3];rfl
theorem Keeps.ty{g g1:G}(k:Keeps [] g g1){d:D}{t:Ty}(h:tyOf g d=some t):tyOf g1 d=some t:=by
 cases d with
 |ref n =>
  unfold tyOf at h ⊢
  dsimp only at h ⊢
  cases hg:g[n]? with
  |none=>rw[hg]at h;cases h
  |some o=>rw[hg]at h;rw[k.at' n o (by simp) hg];exact h
 |_=>exact h
theorem thingD.mono{g g1:G}{d:D}(_:Keeps [] g g1)(h:thingD g d):thingD g1 d:=h
theorem QgA{α:Type}(f:α->Bool):∀ts:List α,allB (ts.map λd=>D.bl (f d))=some (ts.all f)
 |[]=>rfl
 |t::ts=>by simp[allB,QgA f ts]
noncomputable def Y6(n m:Nat)(r:List D):Bool:=r.length == m && r.all λd=>entD d n m
noncomputable def QbC(rows:List (List D)):Bool:=match rows with
 |[]=>false
 |r::_=>r.length != 0 && rows.all (Y6 rows.length r.length)
theorem QgB(c:Nat)(t:Str)(σ:S3)(g:G):Zv c (Qa (mLit (.str t)) mNil) σ g=.raise (c,none) σ g:=by simp[Zv,Qa,mLit,mNil,Res.bind,SZ]
theorem eq_int(i j:Int)(g:G):pEq (.int i) (.int j) g=.ok (.bl (i == j)) g:=rfl
theorem ne_int(i j:Int)(g:G):pNe (.int i) (.int j) g=.ok (.bl (!(i == j))) g:=rfl
theorem QlE(n m:Nat)(ts:List D)(x:D)(g:G)(hz:ts.length<=SZ)(h:∀d∈ts,thingD g d):
  ∃g',Keeps [] g g'/\mOp1 pAll (Yc (QX (mVar 3)) 1 [1,2] (gSet 0) ZX (Qr YX (Qa (mVar 0) (Qa (mVar 1) (Qa (mVar 2) mNil))))) [some x,some (.int n),some (.int m),some (.tup ts)] g=.ok (.bl (ts.all λd=>entD d n m)) g':=by
 obtain⟨g1,h1,k1⟩:=Qhb (ds:=ts) (e:=Qr YX (Qa (mVar 0) (Qa (mVar 1) (Qa (mVar 2) mNil)))) (no:=0) (σ:=[some (.int n),some (.int m)]) (g:=g) (f:=λd=>.bl (entD d n m)) hz
  (λd hd g1 k=>⟨g1,by simp[Qr,Qa,mNil,mVar,Res.bind,QfE d n m g1 ((h d hd).mono k)],.refl⟩)
 refine⟨g1++[.lst (ts.map λd=>.bl (entD d n m))],k1.trans (.push _),?_⟩
 have h1:Jq ⟨λ_ i=>some ts[i]?,ts.length⟩ (gSet 0) ZX (Qr YX (Qa (mVar 0) (Qa (mVar 1) (Qa (mVar 2) mNil)))) (ts.length+1) 0 [none,some (.int n),some (.int m)] g []=.ok (ts.map λd=>.bl (entD d n m)) g1:=h1
 simp[mOp1,Yc,QX,mVar,Res.bind,Qdt,hz,capt,h1,pAll,QgA]
theorem QjR(n m:Nat)(ts:List D)(x:D)(g:G)(hz:ts.length<=SZ)(h:∀d∈ts,thingD g d):
  ∃g',Keeps [] g g'/\ZE [some x,some (.int n),some (.int m),some (.tup ts)] g=if Y6 n m ts=true then .nx [some x,some (.int n),some (.int m),some (.tup ts)] g' else .raise (1,none) [some x,some (.int n),some (.int m),some (.tup ts)] g':=by
 by_cases hl:ts.length=m
 ·obtain⟨g2,k2,e2⟩:=QlE n m ts x g hz h
  refine⟨g2,k2,?_⟩
  have hl':((ts.length:Int) == (m:Int))=true:=by simp[hl]
  have gr:Y6 n m ts=ts.all λd=>entD d n m:=by simp[Y6,hl]
  rw[gr]
  simp only[ZE,mSeq,mIf,Qj,mOp2,mOp1,mVar,Res.bind,TX,TY,pLen,ne_int,hl',Bool.not_true,TV,Rr,QA,Ys]
  simp only[mOp1,Res.bind]at e2
  rw[e2]
  cases (ts.all λd=>entD d n m) <;> simp[Zv,Qa,mLit,mNil,Res.bind,SZ]
 ·refine⟨g,.refl,?_⟩
  have hl':((ts.length:Int) == (m:Int))=false:=by simp;omega
  have gr:Y6 n m ts=false:=by
   have:(ts.length == m)=false:=by simp[hl]
   simp only[Y6,this,T5]
  rw[gr]
  simp only[ZE,mSeq,mIf,Qj,mOp2,mOp1,mVar,Res.bind,TX,TY,pLen,ne_int,hl',Bool.not_false,T8,QgB,TV,Rr]
theorem Qea(rows:List (List D))(g:G)(hz:∀r∈rows,r.length<=SZ)(h:∀r∈rows,∀d∈r,thingD g d):
  ∃g',Keeps [] g g'/\Yk [.tup (rows.map .tup)] g=if QbC rows=true then .ok .non g' else .raise (1,none) g':=by
 cases rows with
 |nil=>exact⟨g,.refl,by simp[Yk,mDef,Yj,mSeq,mIf,Qj,mOp2,mOp1,mVar,mLit,Res.bind,pLen,eq_int,QgB,QbC]⟩
 |cons r rest =>
  have e0:¬((rest.length:Int)+1=0):=by omega
  have e1:(0:Int)<(rest.length:Int)+1:=by omega
  by_cases hr:r.length=0
  ·refine⟨g,.refl,?_⟩
   simp[Yk,mDef,Yj,mSeq,mIf,Qj,mOp2,mOp1,mVar,mLit,Res.bind,pLen,eq_int,QgB,QbC,hr,e0,e1,QA,mAsg,gSet,pIx,atD,ixD]
  ·have hr':¬((r.length:Int)=0):=by omega
   have hrn:¬r=[]:=λz=>hr (by rw[z];rfl)
   have hd0:QbC (r::rest)=(r::rest).all (Y6 (r::rest).length r.length):=by simp[QbC,hr]
   have loop:=Qe2 (t:=gSet 3) (ds:=(r::rest).map D.tup) (σ:=[some (.tup ((r::rest).map .tup)),some (.int (r::rest).length),some (.int r.length),none]) (g:=g) (body:=ZE)
    (λi σ g1=>Keeps [] g g1/\(∃u,σ=[some (.tup ((r::rest).map .tup)),some (.int (r::rest).length),some (.int r.length),u])/\∀x∈(r::rest).take i,Y6 (r::rest).length r.length x=true)
    (λo=>∃σ' g1,o=.raise (1,none) σ' g1/\Keeps [] g g1/\∃x∈r::rest,Y6 (r::rest).length r.length x=false) ⟨.refl,⟨none,rfl⟩,by simp⟩ (λi d σ g1 hd hQ=>by
     obtain⟨k,⟨u,hσ⟩,hg⟩:=hQ
     rw[UB]at hd
     cases hx:(r::rest)[i]? with
     |none=>rw[hx]at hd;cases hd
     |some ts =>
      rw[hx]at hd
      cases hd
      have hm:ts∈r::rest:=U3 hx
      subst hσ
      refine⟨_,rfl,?_⟩
      obtain⟨g2,k2,e2⟩:=QjR (r::rest).length r.length ts (.tup ((r::rest).map .tup)) g1 (hz ts hm) λd hd=>(h ts hm d hd).mono k
      simp only[List.set]
      rw[e2]
      cases ha:Y6 (r::rest).length r.length ts with
      |true =>
       left
       refine⟨_,g2,by rw[Uh rfl],k.trans k2,⟨_,rfl⟩,λx hx'=>?_⟩
       rw[List.take_succ,hx]at hx'
       rcases Up.mp hx' with z|z
       ·exact hg x z
       ·have:x=ts:=by simpa using z
        rw[this];exact ha
      |false =>
       right
       rw[Um Uc]
       exact⟨trivial,_,g2,rfl,k.trans k2,ts,hm,ha⟩)
   have fin:Yj [some (.tup ((r::rest).map .tup)),none,none,none] g=forL ⟨λ_ i=>some ((r::rest).map D.tup)[i]?,((r::rest).map D.tup).length⟩ (gSet 3) ZE (((r::rest).map D.tup).length+1) 0 [some (.tup ((r::rest).map .tup)),some (.int (r::rest).length),some (.int r.length),none] g:=by
    simp[Yj,mSeq,mIf,Qj,mOp2,mOp1,mVar,mLit,Res.bind,pLen,eq_int,e0,QA,mAsg,gSet,pIx,atD,ixD,e1,hr',hrn,mFor,QX,Qdt]
   have ap:Yk [.tup ((r::rest).map .tup)] g=match Yj [some (.tup ((r::rest).map .tup)),none,none,none] g with
    |.nx _ g'=>.ok .non g'
    |.rt d g'=>.ok d g'
    |.raise e _ g'=>.raise e g'
    |_=>.stuck:=rfl
   rw[ap,fin]
   rcases loop with⟨σ',g',h1,k1,_,h2⟩|⟨_,σ',g',h1,k1,x,hx,hg⟩
   ·refine⟨g',k1,?_⟩
    have:QbC (r::rest)=true:=by
     rw[hd0,Us]
     intro x hx
     exact h2 x (by rw[Ud,TN];exact hx)
    rw[Uh this,h1]
   ·refine⟨g',k1,?_⟩
    have:¬QbC (r::rest)=true:=by
     rw[hd0,Us]
     intro z
     rw[z x hx]at hg;cases hg
    rw[Um this,h1]
theorem Keeps.seq{g g1:G}(k:Keeps [] g g1){d:D}{p:Bool×List D}(h:QK g d=some p):QK g1 d=some p:=by
 cases d with
 |ref n =>
  unfold QK at h ⊢
  dsimp only at h ⊢
  cases hg:g[n]? with
  |none=>rw[hg]at h;cases h
  |some o=>rw[hg]at h;rw[k.at' n o (by simp) hg];exact h
 |_=>exact h
theorem QdB{g:G}{d:D}{b:Bool}{ds:List D}(h:QK g d=some (b,ds)):∃src,Qdt d g=.ok src g/\src.top=ds.length/\∀g1 i,QK g1 d=some (b,ds)->src.at' g1 i=some ds[i]?:=by
 cases d with
 |tup es=>cases h;exact⟨_,rfl,rfl,λ_ _ _=>rfl⟩
 |fl es=>cases h;exact⟨_,rfl,rfl,λ_ _ _=>rfl⟩
 |ref n =>
  unfold QK at h
  dsimp only at h
  cases hg:g[n]? with
  |none=>rw[hg]at h;cases h
  |some o =>
   rw[hg]at h
   cases o with
   |lst es =>
    cases h
    refine⟨_,by unfold Qdt;dsimp only;rw[hg],rfl,λg1 i h1=>?_⟩
    unfold QK at h1
    dsimp only at h1 ⊢
    cases hg1:g1[n]? with
    |none=>rw[hg1]at h1;cases h1
    |some o1 =>
     rw[hg1]at h1
     cases o1 with
     |lst es1=>cases h1;rfl
     |_=>cases h1
   |_=>cases h
 |_=>cases h
theorem QgC{src:Src}{ds:List D}{e:ME}{no:Nat}{σ:S3}{g:G}{f:D->D}(ht:src.top=ds.length)(hs:∀g1 i,Keeps [] g g1->src.at' g1 i=some ds[i]?)(he:∀d∈ds,∀g1,Keeps [] g g1->∃g2,e ((List.replicate (no+1) none++σ).set 0 (some d)) g1=.ok (f d) g2/\Keeps [] g1 g2):
  ∃g',Jq src (gSet 0) ZX e (src.top+1) 0 (List.replicate (no+1) none++σ) g []=.ok (ds.map f) g'/\Keeps [] g g':=by
 obtain⟨xs,σ',g',h1,h2,h3,h4⟩:=Yy (src:=src) (t:=gSet 0) (c:=ZX) (e:=e) (n:=ds.length)
  (λi σ' g1 acc=>acc=(ds.take i).map f/\Keeps [] g g1/\∃u,σ'=(List.replicate (no+1) none++σ).set 0 u) (λi σ' g1 acc hi h=>by
   obtain⟨h1,h2,u,h3⟩:=h
   obtain⟨g2,k1,k2⟩:=he ds[i] (UR hi) g1 h2
   refine⟨ds[i],_,g1,by rw[hs g1 i h2];simp[hi],rfl,.inl ⟨f ds[i],g2,rfl,?_,?_,h2.trans k2,some ds[i],?_⟩⟩
   ·subst h3;rw[R0];exact k1
   ·rw[h1,UT hi,U1];rfl
   ·subst h3;rw[R0]) (λσ g1 acc h=>by rw[hs g1 _ h.2.1];simp) (src.top+1) 0 (List.replicate (no+1) none++σ) g [] (by omega) (by omega) ⟨by simp,.refl,none,by simp[UM]⟩
 refine⟨g',?_,h3⟩
 rw[h1,h2,TN]
def rowsOf(g:G)(d:D)(rows:List (List D)):Prop:=∃b ds,QK g d=some (b,ds)/\ds.length=rows.length/\∀(i:Nat) x r,ds[i]?=some x->rows[i]?=some r->∃c,QK g x=some (c,r)
theorem rowsOf.mono{g g1:G}{d:D}{rows:List (List D)}(k:Keeps [] g g1)(h:rowsOf g d rows):rowsOf g1 d rows:=by
 obtain⟨b,ds,h1,h2,h3⟩:=h
 exact⟨b,ds,k.seq h1,h2,λi x r hx hr=>let ⟨c,q⟩:=h3 i x r hx hr;⟨c,k.seq q⟩⟩
theorem Qav{g:G}{d:D}{b:Bool}{ds:List D}(h:QK g d=some (b,ds)):QZ d g=.ok (.tup ds) g:=by
 cases d with
 |tup es=>cases h;rfl
 |fl es=>cases h;rfl
 |ref n =>
  unfold QK at h
  dsimp only at h
  cases hg:g[n]? with
  |none=>rw[hg]at h;cases h
  |some o =>
   rw[hg]at h
   cases o with
   |lst es=>cases h;simp[QZ,hg]
   |_=>cases h
 |_=>cases h
noncomputable def JF(rows:List (List D)):GO:=.ins 11 [(Str.ofString "table",.tup (rows.map .tup))]
theorem QlF(m:Nat)(d:D)(rows:List (List D))(g:G)(hm:g[m]?=some (.ins 11 []))(hr:rowsOf g d rows)(hz:∀r∈rows,r.length<=SZ)(hl:rows.length<=SZ)(h:∀r∈rows,∀d∈r,thingD g d):
  ∃g',Keeps [] g g'/\Z8 [.ref m,d] g=if QbC rows=true then .ok .non (g'.set m (JF rows)) else .raise (1,none) g':=by
 obtain⟨b,ds,h1,h2,h3⟩:=hr
 obtain⟨src,s1,s2,s3⟩:=QdB h1
 have mp:∀x∈ds,∃c r,QK g x=some (c,r):=λx hx=>by
  obtain⟨i,hi,rfl⟩:=List.getElem_of_mem hx
  obtain⟨c,q⟩:=h3 i ds[i] (rows[i]'(by omega)) (by simp[hi]) (by simp[show i<rows.length by omega])
  exact⟨c,_,q⟩
 obtain⟨g1,c1,k1⟩:=QgC (src:=src) (ds:=ds) (e:=mOp1 QZ (mVar 0)) (no:=0) (σ:=[]) (g:=g) (f:=λx=>.tup (((QK g x).map (·.2)).getD [])) s2 (λg1 i k=>s3 g1 i (k.seq h1)) (λx hx g1 k=>by
  obtain⟨c,r,q⟩:=mp x hx
  refine⟨g1,?_,.refl⟩
  simp[mOp1,mVar,Res.bind,Qav (k.seq q),q])
 have em:(ds.map λx=>D.tup (((QK g x).map (·.2)).getD []))=rows.map .tup:=by
  apply List.ext_getElem
  ·simp[h2]
  ·intro i hi hi'
   simp only[Ud]at hi hi'
   obtain⟨c,q⟩:=h3 i ds[i] rows[i] (by simp[hi]) (by simp[hi'])
   simp[q]
 rw[em]at c1
 have c1:Jq src (gSet 0) ZX (mOp1 QZ (mVar 0)) (src.top+1) 0 [none] g []=.ok (rows.map .tup) g1:=c1
 have k2:Keeps [] g (g1++[.lst (rows.map .tup)]):=k1.trans (.push _)
 obtain⟨g3,k3,c3⟩:=Qea rows (g1++[.lst (rows.map .tup)]) hz λr hr d hd=>(h r hr d hd).mono k2
 refine⟨g3,k2.trans k3,?_⟩
 have hz2:src.top<=SZ:=by omega
 have hm3:=(k2.trans k3).at' m _ (by simp) hm
 simp[Z8,mDef,Qa1,mSeq,mAsg,mOp1,Yc,QX,mVar,Res.bind,s1,hz2,capt,c1,QZ,gSet,YJ,Qr,Qa,mNil,c3]
 by_cases hg:QbC rows=true
 ·simp[hg,Qci,mVar,hm3,putG,JF]
 ·simp[hg]
theorem QlG(d:D)(rows:List (List D))(g:G)(hr:rowsOf g d rows)(hz:∀r∈rows,r.length<=SZ)(hl:rows.length<=SZ)(h:∀r∈rows,∀d∈r,thingD g d)(a:MA)(σ:S3)(g0:G)(ha:a σ g0=.ok [d] g):
  ∃g',Keeps [] g g'/\QhR 11 Z8 a σ g0=(if QbC rows=true then .ok (.ref g.length) g' else .raise (1,none) g')/\(QbC rows=true->g'[g.length]?=some (JF rows)):=by
 have kp:Keeps [] g (g++[.ins 11 []]):=.push _
 obtain⟨g',k',e'⟩:=QlF g.length d rows (g++[.ins 11 []]) (Qo _) (hr.mono kp) hz hl λr hr d hd=>(h r hr d hd).mono kp
 by_cases hg:QbC rows=true
 ·rw[Uh hg]at e'
  refine⟨g'.set g.length (JF rows),?_,?_,λ_=>?_⟩
  ·refine⟨by rw[UO];exact Uw kp.len k'.len,λn o _ e=>?_⟩
   have hn:n<g.length:=Yq e
   rw[Uq (by omega)]
   exact(kp.trans k').at' n o (by simp) e
  ·simp[QhR,ha,Res.bind,e',hg]
  ·rw[UX]
   have:=k'.len
   simp at this
   omega
 ·rw[Um hg]at e'
  exact⟨g',kp.trans k',by simp[QhR,ha,Res.bind,e',hg],λz=>absurd z hg⟩
theorem Y7{a b:MS}{σ σ':S3}{g g':G}(h:a σ g=.nx σ' g'):mSeq a b σ g=b σ' g':=by unfold mSeq;rw[h]
theorem Y8{a b:MS}{σ:S3}{d:D}{g g':G}(h:a σ g=.rt d g'):mSeq a b σ g=.rt d g':=by unfold mSeq;rw[h]
theorem ZG{i:Nat}{a:ME}{σ:S3}{d:D}{g g':G}(h:a σ g=.ok d g'):mAsg (gSet i) a σ g=.nx (σ.set i (some d)) g':=by unfold mAsg;rw[h];rfl
theorem Qeb{c:MT}{a b:MS}{σ:S3}{g g':G}(h:c σ g=.ok true g'):mIf c a b σ g=a σ g':=by unfold mIf;rw[h];rfl
theorem Qe3{c:MT}{a b:MS}{σ:S3}{g g':G}(h:c σ g=.ok false g'):mIf c a b σ g=b σ g':=by unfold mIf;rw[h];rfl
theorem Zo{f:MF}{a:MA}{σ:S3}{ds:List D}{g g':G}(h:a σ g=.ok ds g'):Qr f a σ g=f ds g':=by unfold Qr;rw[h];rfl
theorem Qbe{a:ME}{σ:S3}{d:D}{g g':G}(h:a σ g=.ok d g'):YJ a σ g=.nx σ g':=by unfold YJ;rw[h]
theorem Yz{a:ME}{σ:S3}{d:D}{g g':G}(h:a σ g=.ok d g'):mRet a σ g=.rt d g':=by unfold mRet;rw[h]
theorem ZR{k n:Nat}{b:MS}{ds:List D}{d:D}{g g':G}(hl:ds.length=k)(h:b (ds.map some++List.replicate n none) g=.rt d g'):mDef k n b ds g=.ok d g':=by unfold mDef;rw[Uh hl,h]
theorem Qne(ns:List Int)(i:Int)(h:0<ns.length):∃x,atD (ns.map D.int) (i%ns.length)=some (.int x):=by
 have h1:0<=i % (ns.length:Int):=UD _ (by omega)
 have h2:i % (ns.length:Int)<ns.length:=UL _ (by omega)
 have h3:(i % (ns.length:Int)).toNat<ns.length:=by omega
 refine⟨ns[(i % (ns.length:Int)).toNat],?_⟩
 unfold atD ixD
 rw[Ud,Uh h1,Uh h2]
 simp[h3]
theorem ix0{a:Nat}{d:D}{g:G}(h:g[a]?=some (.lst [d])):pIx (.ref a) (.int 0) g=.ok d g:=by
 unfold pIx;dsimp only;rw[h];rfl
theorem ixfl{ds:List D}{i:Int}{d:D}{g:G}(h:atD ds i=some d):pIx (.fl ds) (.int i) g=.ok d g:=by
 unfold pIx;dsimp only;rw[h]
theorem Qix(c:Int)(x:D)(a:Nat)(k:Int)(g:G)(ga:g[a]?=some (.lst [.int k]))(hk:0<=k)(hk2:k<1000000001):∃m,0<=m/\m<1999999973/\(mSeq (mAsg (gSet 3) (mOp2 pMod (mOp2 pMul (mOp2 pAdd (mOp2 pAdd (mOp2 pMod (mVar 2) (mLit (.int 2147483647))) (mOp2 pMul (mOp2 pMul (mOp2 pIx (mVar 1) (mLit (.int 0))) (mOp2 pIx (mVar 1) (mLit (.int 0)))) (mLit (.int 7919)))) (mLit (.int 11))) (mLit (.int 48271))) (mLit (.int 2147483647))))
      (mRet (mOp2 pMod (mOp2 pMul (mVar 3) (mVar 3)) (mLit (.int 1999999973))))) [some x,some (.ref a),some (.int c),none] g=.rt (.int m) g:=by
  have c1:cM k:=⟨by omega,by omega⟩
  have c2:cM 7919:=⟨by decide,by decide⟩
  have c3:cM 48271:=⟨by decide,by decide⟩
  have hr:=UL ((c%2147483647+k*k*7919+11)*48271) (show(0:Int)<2147483647 by decide)
  have hr0:=UD ((c%2147483647+k*k*7919+11)*48271) (show(2147483647:Int)≠0 by decide)
  have c4:cM (((c%2147483647+k*k*7919+11)*48271) % 2147483647):=⟨by omega,by omega⟩
  refine⟨((c%2147483647+k*k*7919+11)*48271) % 2147483647*(((c%2147483647+k*k*7919+11)*48271) % 2147483647) % 1999999973,UD _ (by decide),UL _ (by decide),?_⟩
  have e1:(mOp2 pMod (mOp2 pMul (mOp2 pAdd (mOp2 pAdd (mOp2 pMod (mVar 2) (mLit (.int 2147483647))) (mOp2 pMul (mOp2 pMul (mOp2 pIx (mVar 1) (mLit (.int 0))) (mOp2 pIx (mVar 1) (mLit (.int 0)))) (mLit (.int 7919)))) (mLit (.int 11))) (mLit (.int 48271))) (mLit (.int 2147483647))) [some x,some (.ref a),some (.int c),none] g=.ok (.int (((c%2147483647+k*k*7919+11)*48271) % 2147483647)) g:=by
    simp[mOp2,mVar,mLit,Res.bind,ix0 ga,pMod,pMul,pAdd,c1,c2,c3]
  rw[Y7 (ZG e1)]
  generalize ((c%2147483647+k*k*7919+11)*48271) % 2147483647=r at c4 ⊢
  refine Yz ?_
  simp[mOp2,mVar,mLit,Res.bind,pMod,pMul,c4]
theorem Qbf(ns:List Int)(a:Nat)(k:Int)(g:G)(hg:g[a]?=some (.lst [.int k]))(hk:0<=k)(hk2:k<1000000000):
  ∃m,0<=m/\m<1999999973/\Yu [.fl (ns.map .int),.ref a] g=.ok (.int m) (g.set a (.lst [.int (k+1)])):=by
 have s1:Jf (mVar 1) (mLit (.int 0)) (mOp2 pAdd (mOp2 pIx (mVar 1) (mLit (.int 0))) (mLit (.int 1))) [some (.fl (ns.map .int)),some (.ref a),none,none] g=.nx [some (.fl (ns.map .int)),some (.ref a),none,none] (g.set a (.lst [.int (k+1)])):=by
  simp[Jf,mOp2,mVar,mLit,Res.bind,ix0 hg,pAdd,hg,ixD]
 have ga:(g.set a (.lst [.int (k+1)]))[a]?=some (.lst [.int (k+1)]):=Z4 hg
 generalize g.set a (.lst [.int (k+1)])=g1 at s1 ga ⊢
 have s2:mAsg (gSet 2) (mLit (.int 0)) [some (.fl (ns.map .int)),some (.ref a),none,none] g1=.nx [some (.fl (ns.map .int)),some (.ref a),some (.int 0),none] g1:=rfl
 have s3:∃c,mIf (Qj (mOp2 pGt (mOp1 pLen (mVar 0)) (mLit (.int 0)))) (mAsg (gSet 2) (mOp2 pIx (mVar 0) (mOp2 pMod (mOp2 pIx (mVar 1) (mLit (.int 0))) (mOp1 pLen (mVar 0))))) QA [some (.fl (ns.map .int)),some (.ref a),some (.int 0),none] g1=.nx [some (.fl (ns.map .int)),some (.ref a),some (.int c),none] g1:=by
  by_cases hl:0<ns.length
  ·obtain⟨x,hx⟩:=Qne ns (k+1) hl
   have hl':(0:Int)<(ns.length:Int):=by omega
   refine⟨x,?_⟩
   rw[Qeb (g':=g1) (by simp[Qj,mOp2,mOp1,mVar,mLit,Res.bind,pLen,pGt,pCmp,hl])]
   refine ZG ?_
   simp only[mOp2,mOp1,mVar,mLit,Res.bind,TX,TY,ix0 ga,pLen,pMod,Ud,hl',T8,ixfl hx]
  ·cases ns with
   |nil=>exact⟨0,rfl⟩
   |cons x r=>simp at hl
 obtain⟨c,s3⟩:=s3
 obtain⟨m,m1,m2,m3⟩:=Qix c (.fl (ns.map .int)) a (k+1) g1 ga (by omega) (by omega)
 refine⟨m,m1,m2,ZR rfl ?_⟩
 show Qd5 [some (.fl (ns.map .int)),some (.ref a),none,none] g=_
 unfold Qd5
 rw[Y7 s1,Y7 s2,Y7 s3,m3]
def entOk(d:D)(n m:Nat):Prop:=d=.non\/∃(i j:Int)(w:Str),d=.tup [.int i,.str w,.int j]/\0<=i/\i<m/\0<=j/\j<n/\(w=⟨#[108]⟩\/w=⟨#[114]⟩)
theorem entOk.ent{d:D}{n m:Nat}(h:entOk d n m):entD d n m=true:=by
 rcases h with rfl|⟨i,j,w,rfl,h1,h2,h3,h4,h5⟩
 ·rfl
 ·rcases h5 with rfl|rfl <;> simp[entD,JE,wayD,h1,h2,h3,h4]
theorem entOk.thing{d:D}{n m:Nat}{g:G}(h:entOk d n m):thingD g d:=by
 rcases h with h|⟨i,j,w,h,_⟩
 ·exact .inl h
 ·exact .inr ⟨i,j,w,h⟩
theorem s_lr:Str.ofString "lr" = ⟨#[108,114]⟩:=by decide +kernel
theorem Qn4(i:Int)(g:G):∃w,pIx (.str "lr") (.int (i%2)) g=.ok (.str w) g/\(w=⟨#[108]⟩\/w=⟨#[114]⟩):=by
 rw[s_lr]
 rcases(by omega:i%2=0\/i%2=1) with e|e
 ·rw[e];exact⟨_,rfl,.inl rfl⟩
 ·rw[e];exact⟨_,rfl,.inr rfl⟩
theorem QcN{n:Nat}{ds:List D}{y:D}{σ:S3}{g:G}{i j:Nat}(hi:σ[i]?=some (some (.ref n)))(hj:σ[j]?=some (some y))(h:g[n]?=some (.lst ds))(hz:ds.length<SZ):
  YJ (Jr (mVar i) (mVar j)) σ g=.nx σ (g.set n (.lst (ds++[y]))):=by
 refine Qbe (d:=.non) ?_
 simp[Jr,mVar,hi,hj,Res.bind,h,hz]
theorem Qiy(ns:List Int)(a l t:Nat)(k:Int)(n m:Nat)(x5 x7 x8 x9:Option D)(row:List D)(g:G)(hn:0<n)(hm:0<m)(ga:g[a]?=some (.lst [.int k]))(gl:g[l]?=some (.lst row))(hal:a≠l)(hk:0<=k)(hk2:k<1000000000)(hz:row.length<SZ):
  ∃d x8',entOk d n m/\ZU [some (.fl (ns.map .int)),some (.ref a),some (.int n),some (.int m),some (.ref t),x5,some (.ref l),x7,x8,x9] g=.nx [some (.fl (ns.map .int)),some (.ref a),some (.int n),some (.int m),some (.ref t),x5,some (.ref l),x7,x8',some d] ((g.set a (.lst [.int (k+1)])).set l (.lst (row++[d]))):=by
 obtain⟨mm,m1,m2,e⟩:=Qbf ns a k g ga hk hk2
 have gl1:(g.set a (.lst [.int (k+1)]))[l]?=some (.lst row):=by rw[Uq hal];exact gl
 generalize g.set a (.lst [.int (k+1)])=g1 at e gl1 ⊢
 obtain⟨w,hw,ww⟩:=Qn4 (mm/100) g1
 have hm':(0:Int)<m:=by omega
 have hn':(0:Int)<n:=by omega
 have s1:mAsg (gSet 8) (Qr Yu (Qa (mVar 0) (Qa (mVar 1) mNil))) [some (.fl (ns.map .int)),some (.ref a),some (.int n),some (.int m),some (.ref t),x5,some (.ref l),x7,x8,x9] g=.nx [some (.fl (ns.map .int)),some (.ref a),some (.int n),some (.int m),some (.ref t),x5,some (.ref l),x7,some (.int mm),x9] g1 :=
  ZG (by rw[Zo (ds:=[.fl (ns.map .int),.ref a]) (g':=g) rfl];exact e)
 have v2:(mOpA pTup (Qa (mOp2 pMod (mOp2 QR (mVar 8) (mLit (.int 9))) (mVar 3)) (Qa (mOp2 pIx (mLit (.str "lr")) (mOp2 pMod (mOp2 QR (mVar 8) (mLit (.int 100))) (mLit (.int 2)))) (Qa (mOp2 pMod (mOp2 QR (mVar 8) (mLit (.int 300))) (mVar 2)) mNil)))) [some (.fl (ns.map .int)),some (.ref a),some (.int n),some (.int m),some (.ref t),x5,some (.ref l),x7,some (.int mm),x9] g1=.ok (.tup [.int (mm/9%m),.str w,.int (mm/300%n)]) g1:=by
  simp[mOpA,Qa,mNil,mOp2,mVar,mLit,Res.bind,QR,pMod,hm',hn',hw,pTup,SZ,hm,hn]
 have s2:mAsg (gSet 9) (mOpA pTup (Qa (mOp2 pMod (mOp2 QR (mVar 8) (mLit (.int 9))) (mVar 3)) (Qa (mOp2 pIx (mLit (.str "lr")) (mOp2 pMod (mOp2 QR (mVar 8) (mLit (.int 100))) (mLit (.int 2)))) (Qa (mOp2 pMod (mOp2 QR (mVar 8) (mLit (.int 300))) (mVar 2)) mNil)))) [some (.fl (ns.map .int)),some (.ref a),some (.int n),some (.int m),some (.ref t),x5,some (.ref l),x7,some (.int mm),x9] g1=.nx [some (.fl (ns.map .int)),some (.ref a),some (.int n),some (.int m),some (.ref t),x5,some (.ref l),x7,some (.int mm),some (.tup [.int (mm/9%m),.str w,.int (mm/300%n)])] g1:=ZG v2
 have t3:Qj (mOp2 pEq (mOp2 pMod (mVar 8) (mLit (.int 9))) (mLit (.int 0))) [some (.fl (ns.map .int)),some (.ref a),some (.int n),some (.int m),some (.ref t),x5,some (.ref l),x7,some (.int mm),some (.tup [.int (mm/9%m),.str w,.int (mm/300%n)])] g1=.ok (mm%9 == 0) g1:=by
  simp[Qj,mOp2,mVar,mLit,Res.bind,pMod,eq_int]
 unfold ZU
 by_cases h9:mm%9=0
 ·refine⟨.non,some (.int mm),.inl rfl,?_⟩
  rw[Y7 s1,Y7 s2,Y7 (σ':=[some (.fl (ns.map .int)),some (.ref a),some (.int n),some (.int m),some (.ref t),x5,some (.ref l),x7,some (.int mm),some .non]) (g':=g1) ?_]
  ·exact QcN rfl rfl gl1 hz
  ·rw[Qeb (g':=g1) (t3.trans (by simp[h9]))];rfl
 ·refine⟨.tup [.int (mm/9%m),.str w,.int (mm/300%n)],some (.int mm),.inr ⟨_,_,w,rfl,UD _ (by omega),UL _ hm',UD _ (by omega),UL _ hn',ww⟩,?_⟩
  rw[Y7 s1,Y7 s2,Y7 (σ':=[some (.fl (ns.map .int)),some (.ref a),some (.int n),some (.int m),some (.ref t),x5,some (.ref l),x7,some (.int mm),some (.tup [.int (mm/9%m),.str w,.int (mm/300%n)])]) (g':=g1) ?_]
  ·exact QcN rfl rfl gl1 hz
  ·rw[Qe3 (g':=g1) (t3.trans (by simp[h9]))];rfl
theorem Qhc{n:Nat}(h:n<=1000):n<SZ:=Nat.lt_of_le_of_lt h (by decide)
theorem QdC{n:Nat}(h:n<=1000):inR (n:Int):=by
 have:(n:Int)<=1000:=by exact_mod_cast h
 constructor <;> omega
theorem JG{a:ME}{n:Nat}{σ:S3}{g g':G}(h:a σ g=.ok (.int n) g')(hr:inR (n:Int)):Zi a σ g=.ok (Zw 0 n) g':=by
 unfold Zi;rw[h,Res.bind_ok];dsimp only;rw[Uh hr,T4]
theorem QbD{it:MI}{t:MG}{body:MS}{src:Src}{σ:S3}{g g':G}(h:it σ g=.ok src g'):mFor it t body σ g=forL src t body (src.top+1) 0 σ g':=by
 unfold mFor;rw[h]
theorem QjS(ns:List Int)(a l t:Nat)(k:Int)(n m:Nat)(x5 x7 x8 x9:Option D)(g:G)(hn:0<n)(hm:0<m)(hm8:m<=8)(ga:g[a]?=some (.lst [.int k]))(gl:g[l]?=some (.lst []))(hal:a≠l)(hk:0<=k)(hk2:k+m<1000000000):
  ∃row y7 y8 y9 g',mFor (Zi (mVar 3)) (gSet 7) ZU [some (.fl (ns.map .int)),some (.ref a),some (.int n),some (.int m),some (.ref t),x5,some (.ref l),x7,x8,x9] g=.nx [some (.fl (ns.map .int)),some (.ref a),some (.int n),some (.int m),some (.ref t),x5,some (.ref l),y7,y8,y9] g' /\
   row.length=m/\(∀d∈row,entOk d n m)/\Keeps [a,l] g g'/\g'[a]?=some (.lst [.int (k+m)])/\g'[l]?=some (.lst row):=by
 have hr:inR (m:Int):=QdC (by omega)
 have hf:mFor (Zi (mVar 3)) (gSet 7) ZU [some (.fl (ns.map .int)),some (.ref a),some (.int n),some (.int m),some (.ref t),x5,some (.ref l),x7,x8,x9] g=forL (Zw 0 m) (gSet 7) ZU (m+1) 0 [some (.fl (ns.map .int)),some (.ref a),some (.int n),some (.int m),some (.ref t),x5,some (.ref l),x7,x8,x9] g:=QbD (JG rfl hr)
 rw[hf]
 obtain⟨σ',g',e,row,y7,y8,y9,h1,h2,h3,h4,h5,h6⟩:=QbB (t:=gSet 7) (body:=ZU) (lo:=0) (n:=m) (σ:=[some (.fl (ns.map .int)),some (.ref a),some (.int n),some (.int m),some (.ref t),x5,some (.ref l),x7,x8,x9]) (g:=g)
  (λi σ g1=>∃row y7 y8 y9,σ=[some (.fl (ns.map .int)),some (.ref a),some (.int n),some (.int m),some (.ref t),x5,some (.ref l),y7,y8,y9]/\row.length=i/\(∀d∈row,entOk d n m)/\Keeps [a,l] g g1/\g1[a]?=some (.lst [.int (k+i)])/\g1[l]?=some (.lst row))
  ⟨[],x7,x8,x9,rfl,rfl,by simp,.refl,by simpa using ga,gl⟩ (λi σ g1 hi ⟨row,y7,y8,y9,h1,h2,h3,h4,h5,h6⟩=>by
   subst h1
   obtain⟨d,x8',hd,e⟩:=Qiy ns a l t (k+i) n m x5 (some (.int (0+i))) y8 y9 row g1 hn hm h5 h6 hal (by omega) (by omega) (Qhc (by omega))
   refine⟨_,_,_,rfl,e,row++[d],_,x8',_,rfl,by simp[h2],?_,?_,?_,?_⟩
   ·intro x hx
    rcases Up.mp hx with z|z
    ·exact h3 x z
    ·rw[Ug.mp z];exact hd
   ·exact h4.trans (((Keeps.set a _).mono (by simp)).trans ((Keeps.set l _).mono (by simp)))
   ·rw[Uq (Ne.symm hal),Z4 h5]
    simp;omega
   ·refine Z4 (o:=.lst row) ?_
    rw[Uq hal];exact h6)
 exact⟨row,y7,y8,y9,g',by rw[e,h1],h2,h3,h4,h5,h6⟩
theorem om1{a b c:Nat}(h1:a<b)(h2:b<c):a≠c:=by omega
theorem om2{k x:Int}(h1:0<=k)(h2:0<=x):0<=k+x:=by omega
theorem om3{k x:Int}{m:Nat}(h1:k<900000000)(h2:x<=96)(h3:m<=8):k+x+m<1000000000:=by omega
theorem om7{a b c:Nat}{ds:List D}(h2:ds.length=a)(hi:a<b)(h3:b<=12):ds.length<=1000:=by omega
def tabOf(N:Nat)(g:G)(t:Nat)(rows:List (List D)):Prop:=N<=t/\∃ds,g[t]?=some (.lst ds)/\ds.length=rows.length/\∀(i:Nat) x r,ds[i]?=some x->rows[i]?=some r->∃n,x=.ref n/\N<=n/\n≠t/\g[n]?=some (.lst r)
theorem tabOf.rows{N:Nat}{g:G}{t:Nat}{rows:List (List D)}(h:tabOf N g t rows):rowsOf g (.ref t) rows:=by
 obtain⟨_,ds,h1,h2,h3⟩:=h
 refine⟨true,ds,by simp[QK,h1],h2,λi x r hx hr=>?_⟩
 obtain⟨n,rfl,_,_,h4⟩:=h3 i x r hx hr
 exact⟨true,by simp[QK,h4]⟩
theorem tabOf.mono{N:Nat}{S:List Nat}{g g1:G}{t:Nat}{rows:List (List D)}(h:tabOf N g t rows)(k:Keeps S g g1)(hS:∀n∈S,n<N):tabOf N g1 t rows:=by
 obtain⟨h0,ds,h1,h2,h3⟩:=h
 refine⟨h0,ds,k.at' t _ (λz=>by have:=hS t z;omega) h1,h2,λi x r hx hr=>?_⟩
 obtain⟨n,h4,h5,h6,h7⟩:=h3 i x r hx hr
 exact⟨n,h4,h5,h6,k.at' n _ (λz=>by have:=hS n z;omega) h7⟩
theorem QjT(ns:List Int)(a:Nat)(k:Int)(n m:Nat)(g:G)(hn:0<n)(hm:0<m)(hn12:n<=12)(hm8:m<=8)(ga:g[a]?=some (.lst [.int k]))(hk:0<=k)(hk2:k<900000000):
  ∃rows g',QcI [.fl (ns.map .int),.ref a,.int n,.int m] g=.ok (.ref g.length) g'/\Keeps [a] g g'/\g'[a]?=some (.lst [.int (k+n*m)])/\tabOf g.length g' g.length rows/\rows.length=n/\(∀r∈rows,r.length=m)/\∀r∈rows,∀d∈r,entOk d n m:=by
 have hr:inR (n:Int):=QdC (by omega)
 have hal:a<g.length:=Yq ga
 have hz0:([]:List D).length<=SZ:=by simp
 have s1:mAsg (gSet 4) (mOpA newL mNil) [some (.fl (ns.map .int)),some (.ref a),some (.int n),some (.int m),none,none,none,none,none,none] g=.nx [some (.fl (ns.map .int)),some (.ref a),some (.int n),some (.int m),some (.ref g.length),none,none,none,none,none] (g++[.lst []]) :=
  ZG (by simp[mOpA,mNil,Res.bind,newL])
 have kp:Keeps [a] g (g++[.lst []]):=.push _
 have ga1:(g++[.lst []])[a]?=some (.lst [.int k]):=(Keeps.push (S:=[]) (.lst [])).at' a _ (by simp) ga
 have gt1:(g++[.lst []])[g.length]?=some (.lst []):=Qo _
 have hl1:g.length<(g++[GO.lst []]).length:=by simp
 generalize g++[.lst []]=g1 at s1 kp ga1 gt1 hl1
 obtain⟨σ',g',e,ds,rows,y5,y6,y7,y8,y9,h1,h2,h3,h4,h5,h6,h7,h8,h9⟩:=QbB (t:=gSet 5) (body:=Jk) (lo:=0) (n:=n) (σ:=[some (.fl (ns.map .int)),some (.ref a),some (.int n),some (.int m),some (.ref g.length),none,none,none,none,none]) (g:=g1)
  (λi σ g2=>∃ds rows y5 y6 y7 y8 y9,σ=[some (.fl (ns.map .int)),some (.ref a),some (.int n),some (.int m),some (.ref g.length),y5,y6,y7,y8,y9]/\ds.length=i/\rows.length=i/\Keeps [a,g.length] g1 g2/\g2[a]?=some (.lst [.int (k+i*m)])/\g2[g.length]?=some (.lst ds) /\
   (∀(i:Nat) x r,ds[i]?=some x->rows[i]?=some r->∃n,x=.ref n/\g.length<n/\g2[n]?=some (.lst r))/\(∀r∈rows,r.length=m)/\∀r∈rows,∀d∈r,entOk d n m)
  ⟨[],[],none,none,none,none,none,rfl,rfl,rfl,.refl,by simpa using ga1,gt1,by simp,by simp,by simp⟩ (λi σ g2 hi ⟨ds,rows,y5,y6,y7,y8,y9,h1,h2,h3,h4,h5,h6,h7,h8,h9⟩=>by
   subst h1
   have hl2:g.length<g2.length:=Yq h6
   have q1:mAsg (gSet 6) (mOpA newL mNil) [some (.fl (ns.map .int)),some (.ref a),some (.int n),some (.int m),some (.ref g.length),some (.int (0+i)),y6,y7,y8,y9] g2=.nx [some (.fl (ns.map .int)),some (.ref a),some (.int n),some (.int m),some (.ref g.length),some (.int (0+i)),some (.ref g2.length),y7,y8,y9] (g2++[.lst []]) :=
    ZG (by simp[mOpA,mNil,Res.bind,newL])
   have k3:Keeps [] g2 (g2++[.lst []]):=.push _
   have gl3:(g2++[.lst []])[g2.length]?=some (.lst []):=Qo _
   generalize g2++[.lst []]=g3 at q1 k3 gl3
   have him:(i:Int)*m<=96:=by
    have:i*m<=12*8:=Nat.mul_le_mul (by omega) hm8
    exact_mod_cast this
   have him0:(0:Int)<=(i:Int)*m:=RI (by omega) (by omega)
   obtain⟨row,z7,z8,z9,g4,e4,r1,r2,r3,r4,r5⟩:=QjS ns a g2.length g.length (k+i*m) n m (some (.int (0+i))) y7 y8 y9 g3 hn hm hm8 (k3.at' a _ (by simp) h5) gl3 (om1 hal hl2) (om2 hk him0) (om3 hk2 him hm8)
   have gt4:g4[g.length]?=some (.lst ds):=r3.at' _ _ (by simp;omega) (k3.at' _ _ (by simp) h6)
   refine⟨_,[some (.fl (ns.map .int)),some (.ref a),some (.int n),some (.int m),some (.ref g.length),some (.int (0+i)),some (.ref g2.length),z7,z8,z9],g4.set g.length (.lst (ds++[.ref g2.length])),rfl,?_,ds++[.ref g2.length],rows++[row],_,_,z7,z8,z9,rfl,by simp[h2],by simp[h3],?_,?_,?_,?_,?_,?_⟩
   ·show Jk [some (.fl (ns.map .int)),some (.ref a),some (.int n),some (.int m),some (.ref g.length),some (.int (0+i)),y6,y7,y8,y9] g2=_
    unfold Jk
    rw[Y7 q1,Y7 e4]
    exact QcN rfl rfl gt4 (Qhc (om7 (c:=0) h2 hi hn12))
   ·refine⟨by rw[UO];exact Uw h4.len (Uw k3.len r3.len),λb o hb eb=>?_⟩
    have hb':b≠a/\b≠g.length:=by simpa using hb
    have e2:=h4.at' b o hb eb
    have:b<g2.length:=Yq e2
    rw[Uq (Ne.symm hb'.2)]
    exact r3.at' b o (by simp;omega) (k3.at' b o (by simp) e2)
   ·rw[Uq (by omega),r4]
    have:k+(i:Int)*m+m=k+((i+1:Nat):Int)*m:=by
     rw[Int.natCast_add,Int.add_mul];simp;omega
    rw[this]
   ·exact Z4 gt4
   ·intro j x r hx hr'
    have key:∀b o,g.length<b->g2[b]?=some o->(g4.set g.length (.lst (ds++[.ref g2.length])))[b]?=some o:=λb o hb eb=>by
     have:b<g2.length:=Yq eb
     rw[Uq (by omega)]
     exact r3.at' b o (by simp;omega) (k3.at' b o (by simp) eb)
    by_cases hj:j<i
    ·rw[UC (by omega)]at hx hr'
     obtain⟨b,hb1,hb2,hb3⟩:=h7 j x r hx hr'
     exact⟨b,hb1,hb2,key b _ hb2 hb3⟩
    ·have hji:j=i:=by
      have:=(Uf.mp hx).1
      simp at this;omega
     subst hji
     rw[UJ (by omega),h2]at hx
     rw[UJ (by omega),h3]at hr'
     simp at hx hr'
     subst hx hr'
     exact⟨g2.length,rfl,hl2,by rw[Uq (by omega)];exact r5⟩
   ·intro r hr'
    rcases Up.mp hr' with z|z
    ·exact h8 r z
    ·rw[Ug.mp z];exact r1
   ·intro r hr'
    rcases Up.mp hr' with z|z
    ·exact h9 r z
    ·rw[Ug.mp z];exact r2)
 refine⟨rows,g',?_,?_,h5,⟨Ul _,ds,h6,by omega,λi x r hx hr'=>?_⟩,h3,h8,h9⟩
 ·refine ZR rfl ?_
  show QcH [some (.fl (ns.map .int)),some (.ref a),some (.int n),some (.int m),none,none,none,none,none,none] g=_
  unfold QcH
  rw[Y7 s1,Y7 (σ':=σ') (g':=g') ?_]
  ·subst h1;rfl
  ·rw[<-e]
   exact QbD (JG rfl hr)
 ·refine⟨Uw kp.len h4.len,λb o hb eb=>?_⟩
  have:b<g.length:=Yq eb
  exact h4.at' b o (by simp at hb ⊢;omega) (kp.at' b o hb eb)
 ·obtain⟨b,hb1,hb2,hb3⟩:=h7 i x r hx hr'
  exact⟨b,hb1,by omega,by omega,hb3⟩
theorem Ql{a b:MS}{σ:S3}{g:G}{R:Out}(σ':S3)(g':G)(h:a σ g=.nx σ' g')(h2:b σ' g'=R):mSeq a b σ g=R:=(Y7 h).trans h2
theorem ift{c:MT}{a b:MS}{σ:S3}{g:G}{R:Out}(g':G)(h:c σ g=.ok true g')(h2:a σ g'=R):mIf c a b σ g=R:=(Qeb h).trans h2
theorem iff'{c:MT}{a b:MS}{σ:S3}{g:G}{R:Out}(g':G)(h:c σ g=.ok false g')(h2:b σ g'=R):mIf c a b σ g=R:=(Qe3 h).trans h2
theorem QjU{i:Int}(h0:-1000000<=i)(h1:i<=1000000):cM i:=⟨by omega,by omega⟩
theorem mulL{i j:Int}{g:G}(h:cM i):pMul (.int i) (.int j) g=.ok (.int (i*j)) g:=Uh (.inl h)
theorem mulR{i j:Int}{g:G}(h:cM j):pMul (.int i) (.int j) g=.ok (.int (i*j)) g:=Uh (.inr h)
theorem modP{i j:Int}{g:G}(h:0<j):pMod (.int i) (.int j) g=.ok (.int (i%j)) g:=Uh h
theorem divP{i j:Int}{g:G}(h:0<j)(h2:j<=1000000):QR (.int i) (.int j) g=.ok (.int (i/j)) g:=Uh ⟨h,by omega⟩
theorem QkD{k n:Nat}{b:MS}{ds:List D}{σ:S3}{g g':G}(hl:ds.length=k)(h:b (ds.map some++List.replicate n none) g=.nx σ g'):mDef k n b ds g=.ok .non g':=by unfold mDef;rw[Uh hl,h]
theorem YI{k n:Nat}{b:MS}{ds:List D}{x:Xc}{σ:S3}{g g':G}(hl:ds.length=k)(h:b (ds.map some++List.replicate n none) g=.raise x σ g'):mDef k n b ds g=.raise x g':=by unfold mDef;rw[Uh hl,h]
theorem Qw{f:D->D->G->Res D}{a b:ME}{σ:S3}{x y:D}{g g1 g2:G}{R:Res D}(ha:a σ g=.ok x g1)(hb:b σ g1=.ok y g2)(h:f x y g2=R):mOp2 f a b σ g=R:=by unfold mOp2;rw[ha,Res.bind_ok,hb,Res.bind_ok,h]
theorem Z3{f:D->G->Res D}{a:ME}{σ:S3}{x:D}{g g1:G}{R:Res D}(ha:a σ g=.ok x g1)(h:f x g1=R):mOp1 f a σ g=R:=by unfold mOp1;rw[ha,Res.bind_ok,h]
theorem Zz{a:ME}{σ:S3}{b:Bool}{g g1:G}(ha:a σ g=.ok (.bl b) g1):Qj a σ g=.ok b g1:=by unfold Qj;rw[ha,Res.bind_ok]
theorem Qx{a:ME}{r:MA}{x:D}{xs:List D}{σ:S3}{g g1 g2:G}(h:a σ g=.ok x g1)(h2:r σ g1=.ok xs g2):Qa a r σ g=.ok (x::xs) g2:=by
 unfold Qa;rw[h,Res.bind_ok,h2];rfl
theorem Qiz{n:Nat}{ds:List D}{y:D}{σ:S3}{g:G}{o e:ME}(ho:o σ g=.ok (.ref n) g)(h:g[n]?=some (.lst ds))(he:e σ g=.ok y g)(hz:ds.length<SZ):
  YJ (Jr o e) σ g=.nx σ (g.set n (.lst (ds++[y]))):=by
 refine Qbe (d:=.non) ?_
 simp[Jr,ho,he,Res.bind,h,hz]
theorem QjV{g:G}{o u:GO}:(g++[o]).set g.length u=g++[u]:=by simp
theorem entOk.good{rows:List (List D)}{n m:Nat}(hn:0<n)(hm:0<m)(h1:rows.length=n)(h2:∀r∈rows,r.length=m)(h3:∀r∈rows,∀d∈r,entOk d n m):QbC rows=true:=by
 cases rows with
 |nil=>simp at h1;omega
 |cons q rest =>
  have hq:=h2 q (UH ..)
  unfold QbC
  rw[Uu,Us]
  refine⟨by simp;intro z;rw[z]at hq;simp at hq;omega,λx hx=>?_⟩
  unfold Y6
  rw[Uu,Us]
  exact⟨by simp[h2 x hx,hq],λd hd=>by rw[h1,hq];exact(h3 x hx d hd).ent⟩
theorem Qbg{it:MI}{n:Nat}{cap:List Nat}{t:MG}{c:MT}{e:ME}{σ:S3}{g g1 g2:G}{src:Src}{ds:List D}{σ0:S3}(h1:it σ g=.ok src g1)(hz:src.top<=SZ)(hc:capt n cap σ=σ0)(h2:Jq src t c e (src.top+1) 0 σ0 g1 []=.ok ds g2):Yc it n cap t c e σ g=.ok (.ref g2.length) (g2++[.lst ds]):=by
 simp only[Yc,h1,hz,hc,h2,T8]
theorem JH{M:Nat}{rows:List (List D)}{σ:S3}{g:G}{i:Nat}(hv:σ[i]?=some (some (.ref M)))(h:g[M]?=some (JF rows)):Qa9 [11] "table" (mVar i) σ g=.ok (.tup (rows.map .tup)) g:=by
 simp[Qa9,mOp1,mVar,hv,Res.bind,h,JF]
theorem QlH{g:G}{d1 d2:D}{b1 b2:Bool}{xs ys:List D}(h1:QK g d1=some (b1,xs))(h2:QK g d2=some (b2,ys))(hl:xs.length=ys.length):
  ∃src,Qgd d1 d2 g=.ok src g/\src.top=xs.length/\∀g1,QK g1 d1=some (b1,xs)->QK g1 d2=some (b2,ys)->src.at' g1 xs.length=some none/\∀(i:Nat) x y,xs[i]?=some x->ys[i]?=some y->src.at' g1 i=some (some (.tup [x,y])):=by
 unfold Qgd
 rw[h1,h2]
 refine⟨_,rfl,by simp[hl],λg1 q1 q2=>⟨?_,λi x y hx hy=>?_⟩⟩
 ·dsimp only;rw[q1,q2];dsimp only;rw[Wf (Ul _)]
 ·dsimp only;rw[q1,q2];dsimp only;rw[hx,hy]
theorem Qe4{a:MT}{σ:S3}{g g1:G}(h1:a σ g=.ok true g1):Ys a σ g=.ok false g1:=by unfold Ys;rw[h1];rfl
section
variable{σ:S3}{g:G}
@[simp] theorem QoB{a b:MS}:mSeq a b σ g=(match a σ g with | .nx σ' g'=>b σ' g'|o=>o):=rfl
@[simp] theorem QoC{i:Nat}{a:ME}:mAsg (gSet i) a σ g=(match a σ g with | .ok d g'=>.nx (σ.set i (some d)) g' | .raise e g'=>.raise e σ g' | .stuck=>.stuck):=rfl
@[simp] theorem Qo6{c:MT}{a b:MS}:mIf c a b σ g=(match c σ g with | .ok t g'=>if t=true then a σ g' else b σ g' | .raise e g'=>.raise e σ g' | .stuck=>.stuck):=rfl
@[simp] theorem QoD{a:ME}:mRet a σ g=(match a σ g with | .ok d g'=>.rt d g' | .raise e g'=>.raise e σ g' | .stuck=>.stuck):=rfl
@[simp] theorem Qn5{a:ME}:YJ a σ g=(match a σ g with | .ok _ g'=>.nx σ g' | .raise e g'=>.raise e σ g' | .stuck=>.stuck):=rfl
@[simp] theorem Qn6:QnW σ g=.rt .non g:=rfl
@[simp] theorem Qn7:QA σ g=.nx σ g:=rfl
@[simp] theorem QoE{i:Nat}:mVar i σ g=(match σ[i]? with|some (some d)=>.ok d g|_=>.stuck):=rfl
@[simp] theorem QoF{d:D}:mLit d σ g=.ok d g:=rfl
@[simp] theorem QoG{f:D->G->Res D}{a:ME}:mOp1 f a σ g=(match a σ g with | .ok x g1=>f x g1 | .raise e g'=>.raise e g' | .stuck=>.stuck):=by unfold mOp1 Res.bind;cases a σ g <;> rfl
@[simp] theorem QoH{f:D->D->G->Res D}{a b:ME}:mOp2 f a b σ g=(match a σ g with | .ok x g1=>(match b σ g1 with | .ok y g2=>f x y g2 | .raise e g'=>.raise e g' | .stuck=>.stuck) | .raise e g'=>.raise e g' | .stuck=>.stuck):=by unfold mOp2 Res.bind;cases a σ g with|ok x g1=>dsimp only;cases b σ g1 <;> rfl|_=>rfl
@[simp] theorem QoI:mNil σ g=.ok [] g:=rfl
@[simp] theorem Qn8{a:ME}{r:MA}:Qa a r σ g=(match a σ g with | .ok x g1=>(match r σ g1 with | .ok xs g2=>.ok (x::xs) g2 | .raise e g'=>.raise e g' | .stuck=>.stuck) | .raise e g'=>.raise e g' | .stuck=>.stuck):=by unfold Qa Res.bind;cases a σ g with|ok x g1=>dsimp only;cases r σ g1 <;> rfl|_=>rfl
@[simp] theorem QoJ{f:List D->G->Res D}{a:MA}:mOpA f a σ g=(match a σ g with | .ok x g1=>f x g1 | .raise e g'=>.raise e g' | .stuck=>.stuck):=by unfold mOpA Res.bind;cases a σ g <;> rfl
@[simp] theorem Qn9{f:MF}{a:MA}:Qr f a σ g=(match a σ g with | .ok x g1=>f x g1 | .raise e g'=>.raise e g' | .stuck=>.stuck):=by unfold Qr Res.bind;cases a σ g <;> rfl
@[simp] theorem Qoa{a:ME}:Qj a σ g=(match a σ g with | .ok (.bl b) g1=>.ok b g1 | .raise e g'=>.raise e g'|_=>.stuck):=by unfold Qj Res.bind;cases a σ g with|ok d g1=>cases d <;> rfl|_=>rfl
@[simp] theorem Qob{a b:MT}:QbN a b σ g=(match a σ g with | .ok c g1=>if c=true then b σ g1 else .ok false g1 | .raise e g'=>.raise e g' | .stuck=>.stuck):=by unfold QbN Res.bind;cases a σ g <;> rfl
@[simp] theorem QoK{a b:MT}:mOrT a b σ g=(match a σ g with | .ok c g1=>if c=true then .ok true g1 else b σ g1 | .raise e g'=>.raise e g' | .stuck=>.stuck):=by unfold mOrT Res.bind;cases a σ g <;> rfl
@[simp] theorem Qoc{a:MT}:Ys a σ g=(match a σ g with | .ok c g1=>.ok (!c) g1 | .raise e g'=>.raise e g' | .stuck=>.stuck):=by unfold Ys Res.bind;cases a σ g <;> rfl
@[simp] theorem QoL{c:MT}{a b:ME}:mIfE c a b σ g=(match c σ g with | .ok t g1=>if t=true then a σ g1 else b σ g1 | .raise e g'=>.raise e g' | .stuck=>.stuck):=by unfold mIfE Res.bind;cases c σ g <;> rfl
@[simp] theorem QoM{a b:ME}:mAnd a b σ g=(match a σ g with | .ok (.bl c) g1=>if c=true then b σ g1 else .ok (.bl false) g1 | .raise e g'=>.raise e g'|_=>.stuck):=by unfold mAnd Res.bind;cases a σ g with|ok d g1=>cases d <;> rfl|_=>rfl
@[simp] theorem QoN{i j:Int}:pAdd (.int i) (.int j) g=.ok (.int (i+j)) g:=rfl
@[simp] theorem QoO{i j:Int}:pSub (.int i) (.int j) g=.ok (.int (i-j)) g:=rfl
@[simp] theorem QoP{i:Int}:pNeg (.int i) g=.ok (.int (-i)) g:=rfl
@[simp] theorem Qo7{i j:Int}:pLt (.int i) (.int j) g=.ok (.bl (decide (i<j))) g:=rfl
@[simp] theorem Qo8{i j:Int}:pLe (.int i) (.int j) g=.ok (.bl (decide (i<=j))) g:=rfl
@[simp] theorem Qo9{i j:Int}:pGt (.int i) (.int j) g=.ok (.bl (decide (j<i))) g:=rfl
@[simp] theorem Qpa{i j:Int}:pGe (.int i) (.int j) g=.ok (.bl (decide (j<=i))) g:=rfl
@[simp] theorem Qpb{i j:Int}:pEq (.int i) (.int j) g=.ok (.bl (i == j)) g:=rfl
@[simp] theorem Qpc{i j:Int}:pNe (.int i) (.int j) g=.ok (.bl (!(i == j))) g:=rfl
theorem ix_tup{ds:List D}{n:Nat}{d:D}(h:ds[n]?=some d):pIx (.tup ds) (.int n) g=.ok d g:=by
 obtain⟨this,e⟩:=Uf.mp h
 simp[pIx,atD,ixD,this,e]
@[simp] theorem QoQ{d:D}{ds:List D}:pIx (.tup (d::ds)) (.int 0) g=.ok d g:=ix_tup (n:=0) rfl
@[simp] theorem QoR{c d:D}{ds:List D}:pIx (.tup (c::d::ds)) (.int 1) g=.ok d g:=ix_tup (n:=1) rfl
@[simp] theorem QoS{b c d:D}{ds:List D}:pIx (.tup (b::c::d::ds)) (.int 2) g=.ok d g:=ix_tup (n:=2) rfl
@[simp] theorem QoT{a b c d:D}{ds:List D}:pIx (.tup (a::b::c::d::ds)) (.int 3) g=.ok d g:=ix_tup (n:=3) rfl
end
theorem Qnf:Str.ofString "one" = ⟨#[111,110,101]⟩:=by decide +kernel
theorem QkE:Str.ofString "many" = ⟨#[109,97,110,121]⟩:=by decide +kernel
theorem QjW:(Str.ofString "many" == Str.ofString "one")=false:=by rw[Qnf,QkE];rfl
theorem QjX:(Str.ofString "one" == Str.ofString "many")=false:=by rw[Qnf,QkE];rfl
theorem Jm(s:Str):(s == s)=true:=Tn s
inductive Tk where
 |one (s:Int)|many (w:List Int) (k:Int)
noncomputable def tkD:Tk->D
 |.one s=>.tup [.str "one",.int s]
 |.many w k=>.tup [.str "many",.tup (w.map .int),.int k]
noncomputable def TkOk:Tk->Prop
 |.one s=>0<=s
 |.many w k=>w≠[]/\(∀x∈w,0<=x)/\0<=k/\w.length<=20/\k<=5
theorem QbE{n:Nat}(h:n<=100000):n<SZ:=Nat.lt_of_le_of_lt h (by decide)
theorem Qe5(i:Int)(g:G):QB [.int i] g=.ok (.bl (decide (0<=i))) g:=rfl
theorem QiA(w:List Int):allB (w.map λi=>D.bl (decide (0<=i)))=some (w.all λi=>decide (0<=i)):=by
 induction w with
 |nil=>rfl
 |cons i r ih=>show(allB (r.map λi=>D.bl (decide (0<=i)))).map (decide (0<=i) && ·)=_;rw[ih];rfl
theorem QgD{ds:List D}{e:ME}{g:G}{F:D->D}(hz:ds.length<=100000)(he:∀d∈ds,∀g1,Keeps [] g g1->∃g2,e [some d] g1=.ok (F d) g2/\Keeps [] g1 g2){src:Src}(htop:src.top=ds.length)(hs:∀g1 i,Keeps [] g g1->src.at' g1 i=some ds[i]?):
  ∃g',Jq src (gSet 0) ZX e (src.top+1) 0 [none] g []=.ok (ds.map F) g'/\Keeps [] g g':=by
 obtain⟨xs,σ',g',h1,h2,h3,_⟩:=Yy (src:=src) (t:=gSet 0) (c:=ZX) (e:=e) (n:=ds.length)
  (λi σ' g1 acc=>acc=(ds.take i).map F/\Keeps [] g g1/\∃u,σ'=[u]) (λi σ' g1 acc hi hQ=>by
   obtain⟨q1,q2,u,q3⟩:=hQ
   subst q3
   obtain⟨g2,k1,k2⟩:=he ds[i] (UR hi) g1 q2
   refine⟨ds[i],[some ds[i]],g1,by rw[hs g1 i q2];simp[hi],rfl,.inl ⟨F ds[i],g2,rfl,k1,?_,q2.trans k2,_,rfl⟩⟩
   rw[q1,UT hi,U1];rfl) (λσ g1 acc hQ=>by rw[hs g1 _ hQ.2.1];simp) (src.top+1) 0 [none] g [] (by omega) (by omega) ⟨rfl,.refl,none,rfl⟩
 rw[TN]at h2
 subst h2
 exact⟨g',h1,h3⟩
theorem Qb5{a b:ME}{σ:S3}{g g1:G}{R:Res D}(h:a σ g=.ok (.bl true) g1)(h2:b σ g1=R):mAnd a b σ g=R:=by unfold mAnd;rw[h,Res.bind_ok];exact h2
theorem Qe6{a b:ME}{σ:S3}{g g1:G}(h:a σ g=.ok (.bl false) g1):mAnd a b σ g=.ok (.bl false) g1:=by unfold mAnd;rw[h,Res.bind_ok];rfl
theorem QiB(w:List Int)(g:G)(hz:w.length<=1000):∃g',JC [.tup (w.map .int)] g=.ok (.bl (decide (w≠[]) && w.all λi=>decide (0<=i))) g'/\Keeps [] g g':=by
 obtain⟨g1,c1,k1⟩:=QgD (ds:=w.map D.int) (e:=Qr QB (Qa (mVar 0) mNil)) (g:=g) (F:=λd=>match d with | .int i=>.bl (decide (0<=i))|_=>.non) (src:=⟨λ_ i=>some (w.map D.int)[i]?,(w.map D.int).length⟩) (by rw[Ud];omega) (λd hd g1 _=>by
  obtain⟨i,_,rfl⟩:=U9.mp hd
  exact⟨g1,rfl,.refl⟩) rfl (λ_ _ _=>rfl)
 have c2:=Qbg (it:=QX (mVar 0)) (n:=1) (cap:=[]) (σ:=[some (.tup (w.map .int))]) (σ0:=[none]) (g:=g) rfl (by show(w.map D.int).length<=SZ;rw[Ud];exact UU (QbE (by omega))) rfl c1
 rw[List.map_map]at c2
 have hall:mOp1 pAll (Yc (QX (mVar 0)) 1 [] (gSet 0) ZX (Qr QB (Qa (mVar 0) mNil))) [some (.tup (w.map .int))] g=.ok (.bl (w.all λi=>decide (0<=i))) (g1++[.lst (w.map ((λd=>match d with | .int i=>.bl (decide (0<=i))|_=>.non) ∘ D.int))]):=Z3 c2 (by
  unfold pAll
  dsimp only
  rw[Qo]
  dsimp only
  rw[show(w.map ((λd=>match d with | .int i=>D.bl (decide (0<=i))|_=>.non) ∘ D.int))=w.map λi=>D.bl (decide (0<=i)) from rfl,QiA])
 have hl:mOp2 pGt (mOp1 pLen (mVar 0)) (mLit (.int 0)) [some (.tup (w.map .int))] g=.ok (.bl (decide ((0:Int)<((w.map D.int).length:Nat)))) g:=rfl
 rw[Ud]at hl
 have kk:Keeps [] g (g1++[.lst (w.map ((λd=>match d with | .int i=>.bl (decide (0<=i))|_=>.non) ∘ D.int))]):=k1.trans (.push _)
 generalize g1++[.lst (w.map ((λd=>match d with | .int i=>.bl (decide (0<=i))|_=>.non) ∘ D.int))]=g2 at hall kk
 by_cases hw:w=[]
 ·subst hw
  exact⟨g,rfl,.refl⟩
 ·have:0<w.length:=Ru.mpr hw
  rw[Uy (by omega)]at hl
  rw[Uy hw,Bool.true_and]
  exact⟨g2,ZR rfl (Yz (Qb5 (g1:=g) rfl (Qb5 hl hall))),kk⟩
def TokR(g:G)(d:D)(b:Bool):Prop:=∀g1,Keeps [] g g1->∃g2,Yl [d] g1=.ok (.bl b) g2/\Keeps [] g1 g2
theorem TokR.mono{g g':G}{d:D}{b:Bool}(h:TokR g d b)(k:Keeps [] g g'):TokR g' d b:=λg1 k1=>h g1 (k.trans k1)
theorem eq_s(s t:Str)(g:G):pEq (.str s) (.str t) g=.ok (.bl (s == t)) g:=rfl
theorem QcO(x:Str)(y:D)(b:Bool)(g:G)(h:∀g1,QB [y] g1=.ok (.bl b) g1):TokR g (.tup [.str x,y]) ((x == Str.ofString "one") && b):=λg1 _=>by
 refine⟨g1,ZR rfl ?_,.refl⟩
 show YA [some (.tup [.str x,y])] g1=_
 unfold YA
 refine Ql [some (.tup [.str x,y])] g1 rfl (Y8 (ift g1 rfl (Yz ?_)))
 have e1:mOp2 pEq (mOp2 pIx (mVar 0) (mLit (.int 0))) (mLit (.str "one")) [some (.tup [.str x,y])] g1=.ok (.bl (x == Str.ofString "one")) g1:=rfl
 cases hx:(x == Str.ofString "one") with
 |true=>rw[hx]at e1;exact Qb5 e1 (by rw[Zo (ds:=[y]) (g':=g1) rfl];exact h g1)
 |false=>rw[hx]at e1;exact Qe6 e1
theorem Qcq(x:Str)(v:D)(k:Int)(b:Bool)(g:G)(h:∀g1,Keeps [] g g1->∃g2,JC [v] g1=.ok (.bl b) g2/\Keeps [] g1 g2):TokR g (.tup [.str x,v,.int k]) ((x == Str.ofString "many") && (b && decide (0<=k))):=λg1 k1=>by
 have e1:mOp2 pEq (mOp2 pIx (mVar 0) (mLit (.int 0))) (mLit (.str "many")) [some (.tup [.str x,v,.int k])] g1=.ok (.bl (x == Str.ofString "many")) g1:=rfl
 obtain⟨g2,e2,k2⟩:=h g1 k1
 have e2':Qr JC (Qa (mOp2 pIx (mVar 0) (mLit (.int 1))) mNil) [some (.tup [.str x,v,.int k])] g1=.ok (.bl b) g2:=by rw[Zo (ds:=[v]) (g':=g1) rfl];exact e2
 have e3:Qr QB (Qa (mOp2 pIx (mVar 0) (mLit (.int 2))) mNil) [some (.tup [.str x,v,.int k])] g2=.ok (.bl (decide (0<=k))) g2:=rfl
 have hh:∀R g3,mAnd (mOp2 pEq (mOp2 pIx (mVar 0) (mLit (.int 0))) (mLit (.str "many"))) (mAnd (Qr JC (Qa (mOp2 pIx (mVar 0) (mLit (.int 1))) mNil)) (Qr QB (Qa (mOp2 pIx (mVar 0) (mLit (.int 2))) mNil))) [some (.tup [.str x,v,.int k])] g1=.ok R g3->Yl [.tup [.str x,v,.int k]] g1=.ok R g3:=λR g3 hR=>by
  refine ZR rfl ?_
  show YA [some (.tup [.str x,v,.int k])] g1=_
  unfold YA
  exact Ql [some (.tup [.str x,v,.int k])] g1 rfl (Ql [some (.tup [.str x,v,.int k])] g1 rfl (Yz (Qb5 rfl hR)))
 cases hx:(x == Str.ofString "many") with
 |false=>rw[hx]at e1;exact⟨g1,hh _ _ (Qe6 e1),.refl⟩
 |true =>
  rw[hx]at e1
  refine⟨g2,hh _ _ (Qb5 e1 ?_),k2⟩
  cases b with
  |false=>exact Qe6 e2'
  |true=>exact Qb5 e2' e3
theorem Qcr{t:Tk}(h:TkOk t)(g:G):TokR g (tkD t) true:=by
 cases t with
 |one s =>
  have:=QcO (Str.ofString "one") (.int s) (decide (0<=s)) g λ_=>rfl
  rw[Jm,Uy (show 0<=s from h)]at this
  exact this
 |many w k =>
  obtain⟨h1,h2,h3,h4,_⟩:=h
  have:=Qcq (Str.ofString "many") (.tup (w.map .int)) k _ g λg1 _=>QiB w g1 (by omega)
  rw[Jm,Uy h1,Uy h3,Us.mpr λx hx=>Uy (h2 x hx)]at this
  exact this
theorem QF{g g1:G}{x:D}{p:Bool×List D}(h:QK g x=some p)(k:Keeps [] g g1):QK g1 x=some p:=by
 cases x with
 |ref n =>
  unfold QK at h ⊢
  dsimp only at h ⊢
  cases hg:g[n]? with
  |none=>rw[hg]at h;cases h
  |some o =>
   rw[hg]at h
   rw[k.at' _ _ (by simp) hg]
   exact h
 |_=>exact h
theorem Qec{g:G}{x:D}{b:Bool}{xs:List D}(h:QK g x=some (b,xs)):tyOf g x=some (if b then .list else .tuple):=by
 cases x with
 |ref n =>
  unfold QK at h
  unfold tyOf
  dsimp only at h ⊢
  cases hg:g[n]? with
  |none=>rw[hg]at h;cases h
  |some o =>
   rw[hg]at h
   cases o with
   |lst ds=>cases h;rfl
   |_=>cases h
 |tup ds=>cases h;rfl
 |fl ds=>cases h;rfl
 |_=>cases h
theorem QlI(bs:List Bool):allB (bs.map D.bl)=some (bs.all id):=by
 induction bs with
 |nil=>rfl
 |cons b r ih=>show(allB (r.map D.bl)).map (b && ·)=_;rw[ih];rfl
noncomputable def tokB(F:D->Bool)(d:D):D:=.bl (F d)
theorem Y9{g:G}{x:D}{b:Bool}{ds:List D}(F:D->Bool)(h:QK g x=some (b,ds))(hz:ds.length<=1000)(hF:∀d∈ds,TokR g d (F d)):
  ∃g',Keeps [] g g'/\((ds.all F=true/\Qz [x] g=.ok .non g')\/(ds.all F=false/\Qz [x] g=.raise (7,none) g')):=by
 obtain⟨src,s1,s2,s3⟩:=QdB h
 obtain⟨g1,c1,k1⟩:=QgD (ds:=ds) (e:=Qr Yl (Qa (mVar 0) mNil)) (g:=g) (F:=tokB F) (src:=src) (by omega) (λd hd g1 k=>by
  obtain⟨g2,e,k2⟩:=hF d hd g1 k
  exact⟨g2,by rw[Zo (ds:=[d]) (g':=g1) rfl];exact e,k2⟩) s2 (λg1 i k=>s3 g1 i (QF h k))
 have c2:=Qbg (it:=QX (mVar 0)) (n:=1) (cap:=[]) (σ:=[some x]) (t:=gSet 0) (c:=ZX) (σ0:=[none]) (g:=g) (by
  unfold QX
  rw[show mVar 0 [some x] g=.ok x g from rfl,Res.bind_ok]
  exact s1) (by rw[s2];exact UU (QbE (by omega))) rfl c1
 have hm:ds.map (tokB F)=(ds.map F).map D.bl:=by rw[List.map_map];rfl
 rw[hm]at c2
 have hall:mOp1 pAll (Yc (QX (mVar 0)) 1 [] (gSet 0) ZX (Qr Yl (Qa (mVar 0) mNil))) [some x] g=.ok (.bl (ds.all F)) (g1++[.lst ((ds.map F).map D.bl)]):=Z3 c2 (by
  unfold pAll
  dsimp only
  rw[Qo]
  dsimp only
  rw[QlI,List.all_map];rfl)
 have kk:Keeps [] g (g1++[.lst ((ds.map F).map D.bl)]):=k1.trans (.push _)
 generalize g1++[GO.lst ((ds.map F).map D.bl)]=g2 at hall kk
 have hsq:Qj (mOp1 Qdz (mVar 0)) [some x] g=.ok true g:=Zz (Z3 (x:=x) (g1:=g) rfl (by unfold Qdz;rw[Qec h];cases b <;> rfl))
 have ht:∀v,ds.all F=v->mOrT (Ys (Qj (mOp1 Qdz (mVar 0)))) (Ys (Qj (mOp1 pAll (Yc (QX (mVar 0)) 1 [] (gSet 0) ZX (Qr Yl (Qa (mVar 0) mNil)))))) [some x] g=.ok (!v) g2:=λv hv=>by
  unfold mOrT
  rw[Qe4 hsq,Res.bind_ok,Um Uc]
  unfold Ys
  rw[Zz hall,hv];rfl
 refine⟨g2,kk,?_⟩
 cases hv:ds.all F with
 |true=>exact .inl ⟨rfl,QkD (σ:=[some x]) rfl (iff' g2 (ht _ hv) rfl)⟩
 |false=>exact .inr ⟨rfl,YI (σ:=[some x]) rfl (ift g2 (ht _ hv) rfl)⟩
def lrS(f:Str):Prop:=f=Str.ofString "l" \/ f=Str.ofString "r"
theorem JI{a b:MS}{σ σ':S3}{x:Xc}{g g':G}(h:a σ g=.raise x σ' g'):mSeq a b σ g=.raise x σ' g':=by unfold mSeq;rw[h]
theorem Qed{a:ME}{σ:S3}{x:Xc}{g g':G}(h:a σ g=.raise x g'):YJ a σ g=.raise x σ g':=by unfold YJ;rw[h]
theorem Qng{x:D}{g:G}(hx:QbO x=true):pIn true x (.tup [.str "l",.str "r"]) g=.ok (.bl (!(eqF (.str "l") x || (eqF (.str "r") x || false)))) g:=by
 unfold pIn QK
 dsimp only
 rw[Uh ⟨hx,rfl⟩]
 rfl
theorem JJ{st:Int}{f L R:D}{g:G}(h0:0<=st)(hf:pIn true f (.tup [.str "l",.str "r"]) g=.ok (.bl false) g)(Q:Out)(hQ:mSeq (YJ (Qr Qz (Qa (mOp2 pIx (mVar 0) (mLit (.int 2))) mNil))) (YJ (Qr Qz (Qa (mOp2 pIx (mVar 0) (mLit (.int 3))) mNil))) [some (.tup [.int st,f,L,R])] g=Q):Zc [some (.tup [.int st,f,L,R])] g=Q:=by
 unfold Zc
 have t2:Qj (Qr QB (Qa (mOp2 pIx (mVar 0) (mLit (.int 0))) mNil)) [some (.tup [.int st,f,L,R])] g=.ok true g:=Zz (by rw[Zo (ds:=[.int st]) (g':=g) rfl,Qe5,Uy h0])
 exact Ql [some (.tup [.int st,f,L,R])] g rfl (Ql [some (.tup [.int st,f,L,R])] g (iff' g (Qe4 t2) rfl) (Ql [some (.tup [.int st,f,L,R])] g (iff' g (Zz (Qw (x:=f) (g1:=g) (g2:=g) rfl rfl hf)) rfl) hQ))
theorem QiC{f:Str}(h:lrS f)(g:G):pIn true (.str f) (.tup [.str "l",.str "r"]) g=.ok (.bl false) g:=by
 rw[Qng rfl]
 rcases h with rfl|rfl
 ·show Res.ok (D.bl (!((Str.ofString "l" == Str.ofString "l") || _))) g=_
  rw[Jm];rfl
 ·show Res.ok (D.bl (!(_ || ((Str.ofString "r" == Str.ofString "r") || false)))) g=_
  rw[Jm,Bool.true_or,Bool.or_true];rfl
theorem Qa3{st:Int}{f:Str}{L R:D}{g:G}{b b':Bool}{ds es:List D}(F:D->Bool)(h0:0<=st)(hf:lrS f)(hL:QK g L=some (b,ds))(hR:QK g R=some (b',es))(hz:ds.length<=1000)(hz':es.length<=1000)(tL:∀d∈ds,TokR g d (F d))(tR:∀d∈es,TokR g d (F d)):
  ∃g',Keeps [] g g'/\((ds.all F=true/\es.all F=true/\ZY [.tup [.int st,.str f,L,R]] g=.ok .non g')\/(¬(ds.all F=true/\es.all F=true)/\ZY [.tup [.int st,.str f,L,R]] g=.raise (7,none) g')):=by
 obtain⟨g1,k1,h1⟩:=Y9 F hL hz tL
 have c1:Qr Qz (Qa (mOp2 pIx (mVar 0) (mLit (.int 2))) mNil) [some (.tup [.int st,.str f,L,R])] g=Qz [L] g:=Zo rfl
 rcases h1 with⟨a1,e1⟩|⟨a1,e1⟩
 ·obtain⟨g2,k2,h2⟩:=Y9 F (QF hR k1) hz' (λd hd=>(tR d hd).mono k1)
  have c2:Qr Qz (Qa (mOp2 pIx (mVar 0) (mLit (.int 3))) mNil) [some (.tup [.int st,.str f,L,R])] g1=Qz [R] g1:=Zo rfl
  refine⟨g2,k1.trans k2,?_⟩
  rcases h2 with⟨a2,e2⟩|⟨a2,e2⟩
  ·exact .inl ⟨a1,a2,QkD rfl (JJ h0 (QiC hf g) _ (Ql _ g1 (Qbe (c1.trans e1)) (Qbe (c2.trans e2))))⟩
  ·exact .inr ⟨λz=>by rw[a2]at z;exact Uc z.2,YI rfl (JJ h0 (QiC hf g) _ (Ql _ g1 (Qbe (c1.trans e1)) (Qed (c2.trans e2))))⟩
 ·exact⟨g1,k1,.inr ⟨λz=>by rw[a1]at z;exact Uc z.1,YI rfl (JJ h0 (QiC hf g) _ (JI (Qed (c1.trans e1))))⟩⟩
theorem QdD{n:Nat}{ds:List D}{y:D}{σ:S3}{g:G}{o e:ME}(ho:o σ g=.ok (.ref n) g)(h:g[n]?=some (.lst ds))(he:e σ g=.ok y g)(hz:ds.length<=100000):YJ (Jr o e) σ g=.nx σ (g.set n (.lst (ds++[y]))):=Qiz ho h he (QbE hz)
theorem YT{a b:Nat}{xs ys:List D}{g:G}(h1:g[a]?=some (.lst xs))(h2:g[b]?=some (.lst ys))(hz:xs.length+ys.length<=100000):pAdd (.ref a) (.ref b) g=.ok (.ref g.length) (g++[.lst (xs++ys)]):=by
 unfold pAdd
 dsimp only
 rw[h1,h2]
 dsimp only
 rw[Uh (UU (QbE hz))]
noncomputable def TkF(d:D):Bool:=true
theorem QfF(ts:List Tk):(ts.map tkD).all TkF=true:=Us.mpr λ_ _=>rfl
theorem QjY{st:Int}{f:Str}{L R:D}{g:G}{b b':Bool}{tl tr:List Tk}(h0:0<=st)(hf:lrS f)(hL:QK g L=some (b,tl.map tkD))(hR:QK g R=some (b',tr.map tkD))(ol:∀t∈tl,TkOk t)(or':∀t∈tr,TkOk t)(zl:tl.length<=60)(zr:tr.length<=60):
  ∃g',ZY [.tup [.int st,.str f,L,R]] g=.ok .non g'/\Keeps [] g g':=by
 obtain⟨g',k,h⟩:=Qa3 TkF h0 hf hL hR (by rw[Ud];omega) (by rw[Ud];omega) (λd hd=>by
  obtain⟨t,ht,rfl⟩:=U9.mp hd
  exact Qcr (ol t ht) g) (λd hd=>by
  obtain⟨t,ht,rfl⟩:=U9.mp hd
  exact Qcr (or' t ht) g)
 rcases h with⟨_,_,e⟩|⟨z,_⟩
 ·exact⟨g',e,k⟩
 ·exact absurd ⟨QfF tl,QfF tr⟩ z
theorem JK{f:List D->G->Res D}{a:MA}{σ:S3}{g g1:G}{xs:List D}{R:Res D}(h:a σ g=.ok xs g1)(h2:f xs g1=R):mOpA f a σ g=R:=by unfold mOpA;rw[h,Res.bind_ok,h2]
theorem Qnh{t p:Nat}{ds:List D}{d:D}{g:G}(h:g[t]?=some (.lst ds))(hp:ds[p]?=some d):pIx (.ref t) (.int p) g=.ok d g:=by
 have:=(Uf.mp hp).1
 unfold pIx;dsimp only;rw[h];dsimp only;unfold atD ixD;rw[Uh (by omega),Uh (by omega)];simp[hp]
theorem Qab{t:Nat}{i:Int}{ds:List D}{d:D}{g:G}(h:g[t]?=some (.lst ds))(h0:0<=i)(hp:ds[i.toNat]?=some d):pIx (.ref t) (.int i) g=.ok d g:=by
 have e:((i.toNat:Nat):Int)=i:=by omega
 rw[<-e];exact Qnh h hp
theorem Qni{a b:MT}{σ:S3}{g g1 g2:G}(h1:a σ g=.ok false g1)(h2:b σ g1=.ok false g2):mOrT a b σ g=.ok false g2:=by unfold mOrT;rw[h1,Res.bind_ok,Um Uc,h2]
theorem QiD(ns:List Int){k m tu:Int}{sg:Nat}{g:G}(hs:0<sg)(h0:0<=k)(h1:k<=20):
  ∃x:Int,(0<=x/\x<sg)/\mOp2 pMod (mOp2 pAdd (mOp2 QR (mVar 2) (mOp2 pAdd (mOp2 pMul (mOp2 pMul (mVar 0) (mVar 0)) (mVar 0)) (mLit (.int 1)))) (mOp2 pMul (mVar 0) (mOp2 pMod (mOp2 QR (mVar 3) (mLit (.int 72))) (mLit (.int 5))))) (mVar 1) [some (.int k),some (.int sg),some (.int tu),some (.int m)] g=.ok (.int x) g:=by
 have hs':(0:Int)<sg:=by omega
 have ck:cM k:=QjU (by omega) (by omega)
 have k2:0<=k*k:=RI h0 h0
 have k2':k*k<=400:=by
  have:k*k<=20*20:=Int.mul_le_mul h1 h1 h0 (by decide)
  omega
 have k3:0<=k*k*k:=RI k2 h0
 have k3':k*k*k<=8000:=by
  have:k*k*k<=400*20:=Int.mul_le_mul k2' h1 h0 (by decide)
  omega
 refine⟨(tu / (k*k*k+1)+k*(m/72%5)) % sg,⟨UD _ (by omega),UL _ hs'⟩,?_⟩
 have d1:mOp2 pAdd (mOp2 pMul (mOp2 pMul (mVar 0) (mVar 0)) (mVar 0)) (mLit (.int 1)) [some (.int k),some (.int sg),some (.int tu),some (.int m)] g=.ok (.int (k*k*k+1)) g:=Qw (x:=.int (k*k*k)) (y:=.int 1) (g1:=g) (g2:=g) (Qw (x:=.int (k*k)) (y:=.int k) (g1:=g) (g2:=g) (Qw rfl rfl (mulL ck)) rfl (mulR ck)) rfl rfl
 exact Qw (x:=.int (tu / (k*k*k+1)+k*(m/72%5))) (y:=.int sg) (g1:=g) (g2:=g) (Qw (x:=.int (tu / (k*k*k+1))) (y:=.int (k*(m/72%5))) (g1:=g) (g2:=g) (Qw (x:=.int tu) (y:=.int (k*k*k+1)) (g1:=g) (g2:=g) rfl d1 (divP (by omega) (by omega))) (Qw (x:=.int k) (y:=.int (m/72%5)) (g1:=g) (g2:=g) rfl (Qw (x:=.int (m/72)) (y:=.int 5) (g1:=g) (g2:=g) (Qw rfl rfl (divP (by decide) (by decide))) rfl (modP (by decide))) (mulL ck)) rfl) rfl (modP hs')
theorem QiE{n:Nat}{m tu:Int}{sg:Nat}{x0 x1 x4:Option D}{g:G}(hs:0<sg)(hn:n<=20)(h4:x4=some (.int n)):
  ∃w:List Int,w.length=n/\(∀x∈w,0<=x/\x<(sg:Int))/\Yc (Zi (mVar 4)) 1 [2,5,3] (gSet 0) ZX (mOp2 pMod (mOp2 pAdd (mOp2 QR (mVar 2) (mOp2 pAdd (mOp2 pMul (mOp2 pMul (mVar 0) (mVar 0)) (mVar 0)) (mLit (.int 1)))) (mOp2 pMul (mVar 0) (mOp2 pMod (mOp2 QR (mVar 3) (mLit (.int 72))) (mLit (.int 5))))) (mVar 1)) [x0,x1,some (.int sg),some (.int m),x4,some (.int tu)] g=.ok (.ref g.length) (g++[.lst (w.map .int)]):=by
 subst h4
 obtain⟨xs,σ',g3,c1,w,c2,c3,c4,c5,_⟩:=Yy (src:=Zw 0 n) (t:=gSet 0) (c:=ZX) (e:=mOp2 pMod (mOp2 pAdd (mOp2 QR (mVar 2) (mOp2 pAdd (mOp2 pMul (mOp2 pMul (mVar 0) (mVar 0)) (mVar 0)) (mLit (.int 1)))) (mOp2 pMul (mVar 0) (mOp2 pMod (mOp2 QR (mVar 3) (mLit (.int 72))) (mLit (.int 5))))) (mVar 1)) (n:=n)
  (λi σ' g4 acc=>∃w:List Int,acc=w.map .int/\w.length=i/\(∀x∈w,0<=x/\x<(sg:Int))/\g4=g/\∃u,σ'=[u,some (.int sg),some (.int tu),some (.int m)]) (λi σ' g4 acc hi hQ=>by
   obtain⟨w,q1,q2,q3,q4,u,q5⟩:=hQ
   subst q4 q5
   obtain⟨x,hx,e⟩:=QiD [] (k:=0+(i:Int)) (m:=m) (tu:=tu) (g:=g4) hs (by omega) (by omega)
   refine⟨.int (0+i),[some (.int (0+i)),some (.int sg),some (.int tu),some (.int m)],g4,by simp[Zw,hi],rfl,.inl ⟨.int x,g4,rfl,e,w++[x],by rw[q1,U1];rfl,by rw[Ut,q2];rfl,λy hy=>?_,rfl,_,rfl⟩⟩
   rcases Up.mp hy with z|z
   ·exact q3 y z
   ·rw[Ug.mp z];exact hx) (λσ g4 acc _=>by simp[Zw]) (n+1) 0 [none,some (.int sg),some (.int tu),some (.int m)] g [] (by omega) (by omega) ⟨[],rfl,rfl,(λx h=>by cases h),rfl,none,rfl⟩
 subst c2 c5
 exact⟨w,c3,c4,Qbg (n:=1) (cap:=[2,5,3]) (σ0:=[none,some (.int sg),some (.int tu),some (.int m)]) (JG (n:=n) rfl (QdC (by omega))) (UU (Qhc (show n<=1000 by omega))) rfl c1⟩
theorem QjZ(ns:List Int){a sg:Nat}{k:Int}{g:G}(hs:0<sg)(ga:g[a]?=some (.lst [.int k]))(hk:0<=k)(hk2:k<900000000):
  ∃w g',Qd7 [.fl (ns.map .int),.ref a,.int sg] g=.ok (.tup (w.map .int)) g'/\w≠[]/\(∀x∈w,0<=x/\x<(sg:Int))/\w.length<=20/\Keeps [a] g g'/\g'[a]?=some (.lst [.int (k+2)]):=by
 obtain⟨q,q0,q1,e1⟩:=Qbf ns a k g ga hk (by omega)
 have k1:Keeps [a] g (g.set a (.lst [.int (k+1)])):=.set _ _
 have ga1:(g.set a (.lst [.int (k+1)]))[a]?=some (.lst [.int (k+1)]):=Z4 ga
 generalize g.set a (.lst [.int (k+1)])=g1 at e1 k1 ga1
 have z6:mOp2 pAdd (mLit (.int 1)) (mOp2 pMod (mOp2 QR (mVar 3) (mLit (.int 8))) (mLit (.int 6))) [some (.fl (ns.map .int)),some (.ref a),some (.int sg),some (.int q),none,none] g1=.ok (.int (1+q/8%6)) g1:=Qw (x:=.int 1) (y:=.int (q/8%6)) (g1:=g1) (g2:=g1) rfl (Qw (x:=.int (q/8)) (y:=.int 6) (g1:=g1) (g2:=g1) (Qw rfl rfl (divP (by decide) (by decide))) rfl (modP (by decide))) rfl
 have r0:=UD (q/8) (show(6:Int)≠0 by decide)
 have r1:=UL (q/8) (show(0:Int)<6 by decide)
 have eN:mOpA newL (Qa (mLit (.int 1)) (Qa (mLit (.int 1)) (Qa (mLit (.int 2)) (Qa (mLit (.int 2)) (Qa (mLit (.int 3)) (Qa (mLit (.int 3)) (Qa (mOp2 pAdd (mLit (.int 1)) (mOp2 pMod (mOp2 QR (mVar 3) (mLit (.int 8))) (mLit (.int 6)))) (Qa (mLit (.int 20)) mNil)))))))) [some (.fl (ns.map .int)),some (.ref a),some (.int sg),some (.int q),none,none] g1=.ok (.ref g1.length) (g1++[.lst [.int 1,.int 1,.int 2,.int 2,.int 3,.int 3,.int (1+q/8%6),.int 20]]):=JK (Qx (g1:=g1) rfl (Qx (g1:=g1) rfl (Qx (g1:=g1) rfl (Qx (g1:=g1) rfl (Qx (g1:=g1) rfl (Qx (g1:=g1) rfl (Qx z6 (Qx (g1:=g1) rfl rfl)))))))) rfl
 have k2:Keeps [] g1 (g1++[.lst [.int 1,.int 1,.int 2,.int 2,.int 3,.int 3,.int (1+q/8%6),.int 20]]):=.push _
 have p2:(g1++[GO.lst [.int 1,.int 1,.int 2,.int 2,.int 3,.int 3,.int (1+q/8%6),.int 20]])[g1.length]?=some (.lst [.int 1,.int 1,.int 2,.int 2,.int 3,.int 3,.int (1+q/8%6),.int 20]):=Qo _
 generalize g1++[GO.lst [.int 1,.int 1,.int 2,.int 2,.int 3,.int 3,.int (1+q/8%6),.int 20]]=g2 at eN k2 p2
 have w0:=UD q (show(8:Int)≠0 by decide)
 have w1:=UL q (show(0:Int)<8 by decide)
 have hpick:∃v:Nat,1<=v/\v<=20/\[D.int 1,.int 1,.int 2,.int 2,.int 3,.int 3,.int (1+q/8%6),.int 20][(q%8).toNat]?=some (.int v):=by
  rcases(by omega:q%8=0\/q%8=1\/q%8=2\/q%8=3\/q%8=4\/q%8=5\/q%8=6\/q%8=7) with e|e|e|e|e|e|e|e <;> rw[e]
  ·exact⟨1,by decide,by decide,rfl⟩
  ·exact⟨1,by decide,by decide,rfl⟩
  ·exact⟨2,by decide,by decide,rfl⟩
  ·exact⟨2,by decide,by decide,rfl⟩
  ·exact⟨3,by decide,by decide,rfl⟩
  ·exact⟨3,by decide,by decide,rfl⟩
  ·exact⟨(1+q/8%6).toNat,by omega,by omega,by rw[Int.toNat_of_nonneg (by omega)];rfl⟩
  ·exact⟨20,by decide,by decide,rfl⟩
 obtain⟨v,v1,v2,hv⟩:=hpick
 have e2:mOp2 pIx (mOpA newL (Qa (mLit (.int 1)) (Qa (mLit (.int 1)) (Qa (mLit (.int 2)) (Qa (mLit (.int 2)) (Qa (mLit (.int 3)) (Qa (mLit (.int 3)) (Qa (mOp2 pAdd (mLit (.int 1)) (mOp2 pMod (mOp2 QR (mVar 3) (mLit (.int 8))) (mLit (.int 6)))) (Qa (mLit (.int 20)) mNil))))))))) (mOp2 pMod (mVar 3) (mLit (.int 8))) [some (.fl (ns.map .int)),some (.ref a),some (.int sg),some (.int q),none,none] g1=.ok (.int v) g2:=Qw (x:=.ref g1.length) (y:=.int (q%8)) (g1:=g2) (g2:=g2) eN (Qw rfl rfl (modP (by decide))) (Qab p2 w0 hv)
 have e3:∃n:Nat,1<=n/\n<=20/\mIf (QbN (Qj (mOp2 pEq (mVar 4) (mLit (.int 20)))) (Qj (mOp2 pGt (mOp2 pMod (mOp2 QR (mVar 3) (mLit (.int 8))) (mLit (.int 9))) (mLit (.int 0))))) (mAsg (gSet 4) (mLit (.int 2))) QA [some (.fl (ns.map .int)),some (.ref a),some (.int sg),some (.int q),some (.int v),none] g2=.nx [some (.fl (ns.map .int)),some (.ref a),some (.int sg),some (.int q),some (.int n),none] g2:=by
  have t1:Qj (mOp2 pEq (mVar 4) (mLit (.int 20))) [some (.fl (ns.map .int)),some (.ref a),some (.int sg),some (.int q),some (.int v),none] g2=.ok ((v:Int) == 20) g2:=rfl
  have t2:Qj (mOp2 pGt (mOp2 pMod (mOp2 QR (mVar 3) (mLit (.int 8))) (mLit (.int 9))) (mLit (.int 0))) [some (.fl (ns.map .int)),some (.ref a),some (.int sg),some (.int q),some (.int v),none] g2=.ok (decide (0<q/8%9)) g2:=Zz (Qw (x:=.int (q/8%9)) (y:=.int 0) (g1:=g2) (g2:=g2) (Qw (x:=.int (q/8)) (y:=.int 9) (g1:=g2) (g2:=g2) (Qw rfl rfl (divP (by decide) (by decide))) rfl (modP (by decide))) rfl rfl)
  have t3:QbN (Qj (mOp2 pEq (mVar 4) (mLit (.int 20)))) (Qj (mOp2 pGt (mOp2 pMod (mOp2 QR (mVar 3) (mLit (.int 8))) (mLit (.int 9))) (mLit (.int 0)))) [some (.fl (ns.map .int)),some (.ref a),some (.int sg),some (.int q),some (.int v),none] g2=.ok (((v:Int) == 20) && decide (0<q/8%9)) g2:=by
   unfold QbN
   rw[t1,Res.bind_ok]
   cases ((v:Int) == 20)
   ·rfl
   ·rw[Uh rfl,t2];rfl
  cases hb:((v:Int) == 20) && decide (0<q/8%9) with
  |true=>rw[hb]at t3;exact⟨2,by decide,by decide,ift g2 t3 rfl⟩
  |false=>rw[hb]at t3;exact⟨v,v1,v2,iff' g2 t3 rfl⟩
 obtain⟨n,n1,n2,e3⟩:=e3
 obtain⟨tu,tu0,tu1,e4⟩:=Qbf ns a (k+1) g2 (k2.at' _ _ (by simp) ga1) (by omega) (by omega)
 rw[show k+1+1=k+2 by omega]at e4
 have k4:Keeps [a] g2 (g2.set a (.lst [.int (k+2)])):=.set _ _
 have ga4:(g2.set a (.lst [.int (k+2)]))[a]?=some (.lst [.int (k+2)]):=Z4 (k2.at' _ _ (by simp) ga1)
 generalize g2.set a (.lst [.int (k+2)])=g4 at e4 k4 ga4
 obtain⟨w,w3,w4,e5⟩:=QiE (n:=n) (m:=q) (tu:=tu) (x0:=some (.fl (ns.map .int))) (x1:=some (.ref a)) (g:=g4) hs n2 rfl
 have k5:Keeps [] g4 (g4++[.lst (w.map .int)]):=.push _
 have p5:(g4++[GO.lst (w.map .int)])[g4.length]?=some (.lst (w.map .int)):=Qo _
 generalize g4++[GO.lst (w.map .int)]=g5 at e5 k5 p5
 refine⟨w,g5,ZR rfl ?_,λz=>by rw[z]at w3;have:([]:List Int).length=0:=rfl;omega,w4,by omega,k1.trans (k2.all.trans (k4.trans k5.all)),k5.at' _ _ (by simp) ga4⟩
 show Qd6 [some (.fl (ns.map .int)),some (.ref a),some (.int sg),none,none,none] g=_
 unfold Qd6
 refine Ql [some (.fl (ns.map .int)),some (.ref a),some (.int sg),some (.int q),none,none] g1 (ZG (by rw[Zo (ds:=[.fl (ns.map .int),.ref a]) (g':=g) rfl];exact e1)) ?_
 refine Ql [some (.fl (ns.map .int)),some (.ref a),some (.int sg),some (.int q),some (.int v),none] g2 (ZG e2) (Ql _ g2 e3 ?_)
 refine Ql [some (.fl (ns.map .int)),some (.ref a),some (.int sg),some (.int q),some (.int n),some (.int tu)] g4 (ZG (by rw[Zo (ds:=[.fl (ns.map .int),.ref a]) (g':=g2) rfl];exact e4)) (Yz (Z3 e5 ?_))
 unfold QZ
 dsimp only
 rw[p5]
theorem QaS{c:MT}{body:MS}:∀(f:Nat)(σ:S3)(g:G),ZH c body f σ g≠.stuck->∀f',f<=f'->ZH c body f' σ g=ZH c body f σ g
 |0,_,_,h,_,_=>absurd rfl h
 |f+1,σ,g,h,f',hf=>by
  obtain⟨k,rfl⟩:∃k,f'=k+1:=⟨f' - 1,by omega⟩
  unfold ZH at h ⊢
  cases hc:c σ g with
  |stuck=>rfl
  |raise e g1=>rfl
  |ok b g1 =>
   cases b with
   |false=>rfl
   |true =>
    rw[hc]at h
    dsimp only at h ⊢
    cases hb:body σ g1 with
    |nx σ2 g2=>rw[hb]at h;exact QaS f σ2 g2 h k (by omega)
    |ct σ2 g2=>rw[hb]at h;exact QaS f σ2 g2 h k (by omega)
    |bk σ2 g2=>rfl
    |rt d g2=>rfl
    |raise e σ2 g2=>rfl
    |stuck=>rfl
theorem Qcs{c:MT}{body:MS}{f:Nat}{σ:S3}{g:G}{R:Out}(h:ZH c body f σ g=R)(hR:R≠.stuck):Qds c body σ g=R:=by
 have hx:∃f,ZH c body f σ g≠.stuck:=⟨f,by rw[h];exact hR⟩
 unfold Qds
 rw[dif_pos hx]
 have h1:=hx.choose_spec
 rcases Nat.le_total f hx.choose with z|z
 ·rw[QaS f σ g (by rw[h];exact hR) _ z,h]
 ·rw[<-QaS _ σ g h1 f z,h]
theorem QdE{n q:Nat}{xs ys:List D}{σ:S3}{g g2:G}{o e:ME}(ho:o σ g=.ok (.ref n) g)(h:g[n]?=some (.lst xs))(he:e σ g=.ok (.ref q) g2)(h2:g2[n]?=some (.lst xs))(h3:g2[q]?=some (.lst ys))(hq:n≠q)(hz:xs.length+ys.length<=1000):
  YJ (QcF o e) σ g=.nx σ (g2.set n (.lst (xs++ys))):=by
 refine Qbe (d:=.non) ?_
 unfold QcF
 rw[ho,Res.bind_ok]
 dsimp only
 rw[h]
 dsimp only
 rw[he,Res.bind_ok]
 dsimp only
 rw[h2,h3]
 dsimp only
 rw[Uh ⟨hq,UU (Qhc hz)⟩]
def Ev(h0:G)(r:Nat)(os:List Tk)(σ:S3)(e:ME):Prop:=∀h,Keeps [] h0 h->∃(p:Nat)(us:List Tk)(h':G),e σ h=.ok (.ref p) h'/\Keeps [] h h'/\h'[p]?=some (.lst (us.map tkD))/\(∀t∈us,t∈os)/\us.length<=os.length/\p≠r
theorem QlJ{h0:G}{r:Nat}{os:List Tk}{σ:S3}(hr:r<h0.length):Ev h0 r os σ (mOpA newL mNil):=λh k=>⟨h.length,[],h++[.lst []],rfl,.push _,Qo _,(λt ht=>by cases ht),Bq _,by have:=k.len;omega⟩
theorem QlK{h0:G}{r o i:Nat}{os:List Tk}{σ:S3}(hv:σ[i]?=some (some (.ref o)))(ho:h0[o]?=some (.lst (os.map tkD)))(hor:o≠r):Ev h0 r os σ (mVar i):=λh k=>⟨o,os,h,by unfold mVar;rw[hv],.refl,k.at' _ _ (by simp) ho,λt ht=>ht,Ul _,hor⟩
theorem QgE{α β:Type}(f:α->β)(xs:List α)(lo hi:Option Int):cutD (xs.map f) lo hi=(cutD xs lo hi).map f:=by
 unfold cutD
 rw[Ud,List.map_take,List.map_drop]
theorem QaT{α:Type}{xs:List α}{lo hi:Option Int}:∀t∈cutD xs lo hi,t∈xs:=λt ht=>Wn (Rg ht)
theorem JW{α:Type}{xs:List α}{lo hi:Option Int}:(cutD xs lo hi).length<=xs.length:=by
 unfold cutD
 rw[Tc,T9];omega
theorem QkF{h0:G}{r o i:Nat}{os:List Tk}{σ:S3}{lo hi:MO}{l u:Option Int}(hv:σ[i]?=some (some (.ref o)))(ho:h0[o]?=some (.lst (os.map tkD)))(hr:r<h0.length)(hl:∀h,lo σ h=.ok l h)(hu:∀h,hi σ h=.ok u h):Ev h0 r os σ (QH (mVar i) lo hi):=λh k=>by
 refine⟨h.length,cutD os l u,h++[.lst ((cutD os l u).map tkD)],?_,.push _,Qo _,QaT,JW,by have:=k.len;omega⟩
 unfold QH
 rw[show mVar i σ h=.ok (.ref o) h by unfold mVar;rw[hv],Res.bind_ok,hl,Res.bind_ok,hu,Res.bind_ok]
 unfold Qbo
 dsimp only
 rw[k.at' _ _ (by simp) ho]
 dsimp only
 rw[QgE]
theorem QkG{h0:G}{r:Nat}{os:List Tk}{σ:S3}{a1 a2 a3 a4 a5 a6 ix:ME}{i:Int}(e1:Ev h0 r os σ a1)(e2:Ev h0 r os σ a2)(e3:Ev h0 r os σ a3)(e4:Ev h0 r os σ a4)(e5:Ev h0 r os σ a5)(e6:Ev h0 r os σ a6)(hi:∀h,ix σ h=.ok (.int (i%6)) h):Ev h0 r os σ (mOp2 pIx (mOpA newL (Qa a1 (Qa a2 (Qa a3 (Qa a4 (Qa a5 (Qa a6 mNil))))))) ix):=λh k=>by
 obtain⟨p1,u1,h1,c1,k1,l1,m1,z1,n1⟩:=e1 h k
 obtain⟨p2,u2,h2,c2,k2,l2,m2,z2,n2⟩:=e2 h1 (k.trans k1)
 obtain⟨p3,u3,h3,c3,k3,l3,m3,z3,n3⟩:=e3 h2 ((k.trans k1).trans k2)
 obtain⟨p4,u4,h4,c4,k4,l4,m4,z4,n4⟩:=e4 h3 (((k.trans k1).trans k2).trans k3)
 obtain⟨p5,u5,h5,c5,k5,l5,m5,z5,n5⟩:=e5 h4 ((((k.trans k1).trans k2).trans k3).trans k4)
 obtain⟨p6,u6,h6,c6,k6,l6,m6,z6,n6⟩:=e6 h5 (((((k.trans k1).trans k2).trans k3).trans k4).trans k5)
 have kp:Keeps [] h6 (h6++[.lst [.ref p1,.ref p2,.ref p3,.ref p4,.ref p5,.ref p6]]):=.push _
 have pp:(h6++[GO.lst [.ref p1,.ref p2,.ref p3,.ref p4,.ref p5,.ref p6]])[h6.length]?=some (.lst [.ref p1,.ref p2,.ref p3,.ref p4,.ref p5,.ref p6]):=Qo _
 have eN:mOpA newL (Qa a1 (Qa a2 (Qa a3 (Qa a4 (Qa a5 (Qa a6 mNil)))))) σ h=.ok (.ref h6.length) (h6++[.lst [.ref p1,.ref p2,.ref p3,.ref p4,.ref p5,.ref p6]]):=JK (Qx c1 (Qx c2 (Qx c3 (Qx c4 (Qx c5 (Qx c6 rfl)))))) rfl
 generalize h6++[GO.lst [.ref p1,.ref p2,.ref p3,.ref p4,.ref p5,.ref p6]]=h7 at kp pp eN
 have w0:=UD i (show(6:Int)≠0 by decide)
 have w1:=UL i (show(0:Int)<6 by decide)
 have kk:Keeps [] h h7:=k1.trans (k2.trans (k3.trans (k4.trans (k5.trans (k6.trans kp)))))
 have fin:∀(p:Nat)(us:List Tk)(g:G),g[p]?=some (.lst (us.map tkD))->Keeps [] g h7->(∀t∈us,t∈os)->us.length<=os.length->p≠r->[D.ref p1,.ref p2,.ref p3,.ref p4,.ref p5,.ref p6][(i%6).toNat]?=some (.ref p)->∃(p:Nat)(us:List Tk)(h':G),mOp2 pIx (mOpA newL (Qa a1 (Qa a2 (Qa a3 (Qa a4 (Qa a5 (Qa a6 mNil))))))) ix σ h=.ok (.ref p) h'/\Keeps [] h h'/\h'[p]?=some (.lst (us.map tkD))/\(∀t∈us,t∈os)/\us.length<=os.length/\p≠r:=λp us g hp kg hm hz hn hix=>⟨p,us,h7,Qw eN (hi h7) (Qab pp w0 hix),kk,kg.at' _ _ (by simp) hp,hm,hz,hn⟩
 rcases(by omega:i%6=0\/i%6=1\/i%6=2\/i%6=3\/i%6=4\/i%6=5) with e|e|e|e|e|e
 ·exact fin p1 u1 h1 l1 (k2.trans (k3.trans (k4.trans (k5.trans (k6.trans kp))))) m1 z1 n1 (by rw[e];rfl)
 ·exact fin p2 u2 h2 l2 (k3.trans (k4.trans (k5.trans (k6.trans kp)))) m2 z2 n2 (by rw[e];rfl)
 ·exact fin p3 u3 h3 l3 (k4.trans (k5.trans (k6.trans kp))) m3 z3 n3 (by rw[e];rfl)
 ·exact fin p4 u4 h4 l4 (k5.trans (k6.trans kp)) m4 z4 n4 (by rw[e];rfl)
 ·exact fin p5 u5 h5 l5 (k6.trans kp) m5 z5 n5 (by rw[e];rfl)
 ·exact fin p6 u6 h6 l6 kp m6 z6 n6 (by rw[e];rfl)
noncomputable def TkL(n:Nat):Tk->Prop
 |.one s=>0<=s/\s<n
 |.many w k=>w≠[]/\(∀x∈w,0<=x/\x<n)/\0<=k/\w.length<=20/\k<=4
theorem TkL.ok{n:Nat}{t:Tk}(h:TkL n t):TkOk t:=by
 cases t with
 |one s=>exact h.1
 |many w k=>exact⟨h.1,λx hx=>(h.2.1 x hx).1,h.2.2.1,h.2.2.2.1,by have:=h.2.2.2.2;omega⟩
theorem QlL{w:List Int}{x0 x1 x2 x3 x4 x5 x7:Option D}{g:G}{sg:Nat}(h0:∀x∈w,0<=x/\x<(sg:Int))(hw:w.length<=20):
  ∃os:List Tk,os.length<=7/\(∀t∈os,TkL sg t)/\Yc (QX (QH (mVar 6) Qy (Q0 (mLit (.int 7))))) 1 [6] (gSet 0) (Qj (mOp2 pLt (mOp1 pLen (mVar 1)) (mLit (.int 8)))) (mOpA pTup (Qa (mLit (.str "one")) (Qa (mVar 0) mNil))) [x0,x1,x2,x3,x4,x5,some (.tup (w.map .int)),x7] g=.ok (.ref g.length) (g++[.lst (os.map tkD)]):=by
 have hcut:cutD (w.map D.int) none (some 7)=(cutD w none (some 7)).map D.int:=QgE _ _ _ _
 have hcl:(cutD w none (some 7)).length<=7:=by
  unfold cutD
  rw[Tc]
  show min (min (7:Int).toNat w.length-0) _<=7
  have:(7:Int).toNat=7:=rfl
  omega
 have hcm:∀x∈cutD w none (some 7),0<=x/\x<(sg:Int):=λx hx=>h0 x (QaT x hx)
 generalize cutD w none (some 7)=v at hcut hcl hcm
 have hit:QX (QH (mVar 6) Qy (Q0 (mLit (.int 7)))) [x0,x1,x2,x3,x4,x5,some (.tup (w.map .int)),x7] g=.ok ⟨λ_ i=>some (v.map D.int)[i]?,(v.map D.int).length⟩ g:=by rw[<-hcut];rfl
 have hvl:(v.map D.int).length=v.length:=Ud _
 obtain⟨xs,σ',g3,c1,os,c2,c3,c4,c5,_⟩:=Yy (src:=⟨λ_ i=>some (v.map D.int)[i]?,(v.map D.int).length⟩) (t:=gSet 0) (c:=Qj (mOp2 pLt (mOp1 pLen (mVar 1)) (mLit (.int 8)))) (e:=mOpA pTup (Qa (mLit (.str "one")) (Qa (mVar 0) mNil))) (n:=v.length)
  (λi σ' g4 acc=>∃os:List Tk,acc=os.map tkD/\os.length<=i/\(∀t∈os,TkL sg t)/\g4=g/\∃u,σ'=[u,some (.tup (w.map .int))]) (λi σ' g4 acc hi hQ=>by
   obtain⟨os,q1,q2,q3,q4,u,q5⟩:=hQ
   subst q4 q5
   have t1:Qj (mOp2 pLt (mOp1 pLen (mVar 1)) (mLit (.int 8))) [some (.int v[i]),some (.tup (w.map .int))] g4=.ok (decide (((w.map D.int).length:Int)<8)) g4:=rfl
   refine⟨.int v[i],[some (.int v[i]),some (.tup (w.map .int))],g4,by dsimp only;rw[UB,UG hi];rfl,rfl,?_⟩
   cases hb:decide (((w.map D.int).length:Int)<8) with
   |true =>
    rw[hb]at t1
    refine .inl ⟨tkD (.one v[i]),g4,t1,rfl,os++[.one v[i]],by rw[q1,U1];rfl,by rw[Ut];show os.length+1<=i+1;omega,λt ht=>?_,rfl,_,rfl⟩
    rcases Up.mp ht with z|z
    ·exact q3 t z
    ·rw[Ug.mp z];exact hcm _ (UR hi)
   |false=>rw[hb]at t1;exact .inr ⟨t1,os,q1,by omega,q3,rfl,_,rfl⟩) (λσ g4 acc _=>by dsimp only;rw[Wf (by rw[hvl];exact Ul _)]) ((v.map D.int).length+1) 0 [none,some (.tup (w.map .int))] g [] (by omega) (by omega) ⟨[],rfl,Ul _,(λt h=>by cases h),rfl,none,rfl⟩
 subst c2 c5
 exact⟨os,by omega,c4,Qbg (n:=1) (cap:=[6]) (σ0:=[none,some (.tup (w.map .int))]) hit (UU (Qhc (show(v.map D.int).length<=1000 by omega))) rfl c1⟩
theorem Keeps.lst{S:List Nat}{g g1:G}(a:Keeps S g g1){n:Nat}{o:GO}(h:g[n]?=some o)(hn:n∉S):g1[n]?=some o:=a.at' n o hn h
theorem QfG(ns:List Int){a r sg:Nat}{k:Int}{x3 x5 x6 x7:Option D}{ts:List Tk}{g:G}(hs:0<sg)(ga:g[a]?=some (.lst [.int k]))(gr:g[r]?=some (.lst (ts.map tkD)))(har:a≠r)(hk:0<=k)(hk2:k<800000000)(hts:∀t∈ts,TkL sg t)(hz:ts.length<=100):
    ∃(ts':List Tk)(k':Int)(g':G),k<=k'/\k'<=k+3/\Keeps [a,r] g g'/\g'[a]?=some (.lst [.int k'])/\g'[r]?=some (.lst (ts'.map tkD))/\(∀t∈ts',TkL sg t) /\
      ((Yv [some (.fl (ns.map .int)),some (.ref a),some (.int sg),x3,some (.ref r),x5,x6,x7] g=.rt (.ref r) g'/\ts'=ts) \/
       (∃y5 y6 y7,Yv [some (.fl (ns.map .int)),some (.ref a),some (.int sg),x3,some (.ref r),x5,x6,x7] g=.nx [some (.fl (ns.map .int)),some (.ref a),some (.int sg),x3,some (.ref r),y5,y6,y7] g'/\ts.length<ts'.length/\ts'.length<=ts.length+15)):=by
  obtain⟨q,q0,q1,e1⟩:=Qbf ns a k g ga hk (by omega)
  have k1:Keeps [a] g (g.set a (.lst [.int (k+1)])):=.set _ _
  have ga1:(g.set a (.lst [.int (k+1)]))[a]?=some (.lst [.int (k+1)]):=Z4 ga
  generalize g.set a (.lst [.int (k+1)])=g1 at e1 k1 ga1
  have gr1:g1[r]?=some (.lst (ts.map tkD)):=k1.at' _ _ (by simp;omega) gr
  have hA:mAsg (gSet 5) (Qr Yu (Qa (mVar 0) (Qa (mVar 1) mNil))) [some (.fl (ns.map .int)),some (.ref a),some (.int sg),x3,some (.ref r),x5,x6,x7] g=.nx [some (.fl (ns.map .int)),some (.ref a),some (.int sg),x3,some (.ref r),some (.int q),x6,x7] g1:=ZG (by rw[Zo (ds:=[.fl (ns.map .int),.ref a]) (g':=g) rfl];exact e1)
  have hm:mOp2 pMod (mVar 5) (mLit (.int 5)) [some (.fl (ns.map .int)),some (.ref a),some (.int sg),x3,some (.ref r),some (.int q),x6,x7] g1=.ok (.int (q%5)) g1:=Qw rfl rfl (modP (by decide))
  have t1:Qj (mOp2 pEq (mOp2 pMod (mVar 5) (mLit (.int 5))) (mLit (.int 0))) [some (.fl (ns.map .int)),some (.ref a),some (.int sg),x3,some (.ref r),some (.int q),x6,x7] g1=.ok (q%5 == 0) g1:=Zz (Qw hm rfl rfl)
  have t2:Qj (mOp2 pLt (mOp2 pMod (mVar 5) (mLit (.int 5))) (mLit (.int 3))) [some (.fl (ns.map .int)),some (.ref a),some (.int sg),x3,some (.ref r),some (.int q),x6,x7] g1=.ok (decide (q%5<3)) g1:=Zz (Qw hm rfl rfl)
  cases h0:(q%5 == 0) with
  |true =>
    rw[h0]at t1
    exact⟨ts,k+1,g1,by omega,by omega,k1.mono (by simp),ga1,gr1,hts,.inl ⟨Ql _ g1 hA (Y8 (ift g1 t1 rfl)),rfl⟩⟩
  |false =>
    rw[h0]at t1
    have hd5:mOp2 QR (mVar 5) (mLit (.int 5)) [some (.fl (ns.map .int)),some (.ref a),some (.int sg),x3,some (.ref r),some (.int q),x6,x7] g1=.ok (.int (q/5)) g1:=Qw rfl rfl (divP (by decide) (by decide))
    cases h3:decide (q%5<3) with
    |true =>
      rw[h3]at t2
      have ev:mOpA pTup (Qa (mLit (.str "one")) (Qa (mOp2 pMod (mOp2 QR (mVar 5) (mLit (.int 5))) (mVar 2)) mNil)) [some (.fl (ns.map .int)),some (.ref a),some (.int sg),x3,some (.ref r),some (.int q),x6,x7] g1=.ok (tkD (.one (q/5%sg))) g1:=JK (Qx (g1:=g1) rfl (Qx (Qw (y:=.int sg) (g2:=g1) hd5 rfl (modP (by omega))) rfl)) rfl
      refine⟨ts++[.one (q/5%sg)],k+1,g1.set r (.lst (ts.map tkD++[tkD (.one (q/5%sg))])),by omega,by omega,(k1.mono (by simp)).trans ((Keeps.set _ _).mono (by simp)),?_,?_,λt ht=>?_,.inr ⟨_,_,_,Ql _ g1 hA (Ql _ g1 (iff' g1 t1 rfl) (ift g1 t2 (QdD rfl gr1 ev (by rw[Ud];omega)))),by simp,by simp⟩⟩
      · rw[Uq (λz=>har z.symm)];exact ga1
      · rw[Z4 gr1,U1];rfl
      · rcases Up.mp ht with z|z
        · exact hts t z
        · rw[Ug.mp z];exact⟨UD _ (by omega),UL _ (by omega)⟩
    |false =>
      rw[h3]at t2
      obtain⟨w,g2,e2,w1,w2,w3,k2,ga2⟩:=QjZ ns (sg:=sg) hs ga1 (by omega) (by omega)
      rw[show k+1+2=k+3 by omega]at ga2
      have gr2:g2[r]?=some (.lst (ts.map tkD)):=k2.at' _ _ (by simp;omega) gr1
      obtain⟨os,o1,o2,e3⟩:=QlL (x0:=some (.fl (ns.map .int))) (x1:=some (.ref a)) (x2:=some (.int sg)) (x3:=x3) (x4:=some (.ref r)) (x5:=some (.int q)) (x7:=x7) (g:=g2) w2 w3
      have k3:Keeps [] g2 (g2++[.lst (os.map tkD)]):=.push _
      have p3:(g2++[GO.lst (os.map tkD)])[g2.length]?=some (.lst (os.map tkD)):=Qo _
      have hro:r<g2.length:=Yq gr2
      have hor:g2.length≠r:=by omega
      generalize g2.length=o at p3 e3 hor
      generalize g2++[GO.lst (os.map tkD)]=g3 at e3 k3 p3
      have gr3:=k3.at' _ _ (by simp) gr2
      have ga3:=k3.at' _ _ (by simp) ga2
      have hr3:=Yq gr3
      have hm5:∀h,mOp2 pMod (mOp2 QR (mVar 5) (mLit (.int 5))) (mLit (.int 6)) [some (.fl (ns.map .int)),some (.ref a),some (.int sg),x3,some (.ref r),some (.int q),some (.tup (w.map .int)),some (.ref o)] h=.ok (.int (q/5%6)) h:=λh=>Qw (g1:=h) (g2:=h) (Qw (g1:=h) (g2:=h) rfl rfl (divP (by decide) (by decide))) rfl (modP (by decide))
      have hm120:∀h,mOp2 pMod (mOp2 QR (mVar 5) (mLit (.int 120))) (mLit (.int 6)) [some (.fl (ns.map .int)),some (.ref a),some (.int sg),x3,some (.ref r),some (.int q),some (.tup (w.map .int)),some (.ref o)] h=.ok (.int (q/120%6)) h:=λh=>Qw (g1:=h) (g2:=h) (Qw (g1:=h) (g2:=h) rfl rfl (divP (by decide) (by decide))) rfl (modP (by decide))
      have hm30:∀h,mOp2 pMod (mOp2 QR (mVar 5) (mLit (.int 30))) (mLit (.int 4)) [some (.fl (ns.map .int)),some (.ref a),some (.int sg),x3,some (.ref r),some (.int q),some (.tup (w.map .int)),some (.ref o)] h=.ok (.int (q/30%4)) h:=λh=>Qw (g1:=h) (g2:=h) (Qw (g1:=h) (g2:=h) rfl rfl (divP (by decide) (by decide))) rfl (modP (by decide))
      have six:∀h0,r<h0.length->h0[o]?=some (.lst (os.map tkD))->Ev h0 r os [some (.fl (ns.map .int)),some (.ref a),some (.int sg),x3,some (.ref r),some (.int q),some (.tup (w.map .int)),some (.ref o)] (mOpA newL mNil)/\Ev h0 r os [some (.fl (ns.map .int)),some (.ref a),some (.int sg),x3,some (.ref r),some (.int q),some (.tup (w.map .int)),some (.ref o)] (mVar 7)/\Ev h0 r os [some (.fl (ns.map .int)),some (.ref a),some (.int sg),x3,some (.ref r),some (.int q),some (.tup (w.map .int)),some (.ref o)] (QH (mVar 7) (Q0 (mOp1 pNeg (mLit (.int 1)))) Qy)/\Ev h0 r os [some (.fl (ns.map .int)),some (.ref a),some (.int sg),x3,some (.ref r),some (.int q),some (.tup (w.map .int)),some (.ref o)] (QH (mVar 7) Qy (Q0 (mLit (.int 1)))):=λh0 hr ho=>⟨QlJ hr,QlK rfl ho hor,QkF rfl ho hr (λ_=>rfl) (λ_=>rfl),QkF rfl ho hr (λ_=>rfl) (λ_=>rfl)⟩
      obtain⟨s1,s2,s3,s4⟩:=six g3 hr3 p3
      obtain⟨p,us,g4,e4,k4,p4,u1,u2,u3⟩:=QkG (i:=q/5) s1 s2 s3 s4 s2 s1 hm5 g3 .refl
      have gr4:=k4.at' _ _ (by simp) gr3
      have x1:=QdE (o:=mVar 4) rfl gr3 e4 gr4 p4 (λz=>u3 z.symm) (by rw[Ud,Ud];omega)
      have k5:Keeps [r] g4 (g4.set r (.lst (ts.map tkD++us.map tkD))):=.set _ _
      have gr5:(g4.set r (.lst (ts.map tkD++us.map tkD)))[r]?=some (.lst (ts.map tkD++us.map tkD)):=Z4 gr4
      generalize g4.set r (.lst (ts.map tkD++us.map tkD))=g5 at x1 k5 gr5
      have ev:mOpA pTup (Qa (mLit (.str "many")) (Qa (mVar 6) (Qa (mOp2 pMod (mOp2 QR (mVar 5) (mLit (.int 30))) (mLit (.int 4))) mNil))) [some (.fl (ns.map .int)),some (.ref a),some (.int sg),x3,some (.ref r),some (.int q),some (.tup (w.map .int)),some (.ref o)] g5=.ok (tkD (.many w (q/30%4))) g5:=JK (Qx (g1:=g5) rfl (Qx (g1:=g5) rfl (Qx (hm30 g5) rfl))) rfl
      have x2:=QdD (o:=mVar 4) rfl gr5 ev (by rw[Ut,Ud,Ud];omega)
      have k6:Keeps [r] g5 (g5.set r (.lst (ts.map tkD++us.map tkD++[tkD (.many w (q/30%4))]))):=.set _ _
      have gr6:(g5.set r (.lst (ts.map tkD++us.map tkD++[tkD (.many w (q/30%4))])))[r]?=some (.lst (ts.map tkD++us.map tkD++[tkD (.many w (q/30%4))])):=Z4 gr5
      generalize g5.set r (.lst (ts.map tkD++us.map tkD++[tkD (.many w (q/30%4))]))=g6 at x2 k6 gr6
      have p6:=k6.at' _ _ (by simp;omega) (k5.at' _ _ (by simp;omega) (k4.at' _ _ (by simp) p3))
      obtain⟨r1,r2,r3,r4⟩:=six g6 (Yq gr6) p6
      obtain⟨p',vs,g7,e7,k7,p7,v1,v2,v3⟩:=QkG (i:=q/120) r1 r2 r4 r3 r1 r2 hm120 g6 .refl
      have gr7:=k7.at' _ _ (by simp) gr6
      have x3':=QdE (o:=mVar 4) rfl gr6 e7 gr7 p7 (λz=>v3 z.symm) (by rw[Ut,Ut,Ud,Ud,Ud];simp;omega)
      have ga7:=k7.at' _ _ (by simp) (k6.at' _ _ (by simp;omega) (k5.at' _ _ (by simp;omega) (k4.at' _ _ (by simp) ga3)))
      refine⟨ts++us++[.many w (q/30%4)]++vs,k+3,g7.set r (.lst (ts.map tkD++us.map tkD++[tkD (.many w (q/30%4))]++vs.map tkD)),by omega,by omega,?_,?_,?_,λt ht=>?_,.inr ⟨_,_,_,Ql _ g1 hA (Ql _ g1 (iff' g1 t1 rfl) (iff' g1 t2 (Ql _ g2 (ZG (by rw[Zo (ds:=[.fl (ns.map .int),.ref a,.int sg]) (g':=g1) rfl];exact e2)) (Ql _ g3 (ZG e3) (Ql _ g5 x1 (Ql _ g6 x2 x3')))))),?_,?_⟩⟩
      · exact(k1.mono (by simp)).trans ((k2.mono (by simp)).trans (k3.all.trans (k4.all.trans ((k5.mono (by simp)).trans ((k6.mono (by simp)).trans (k7.all.trans ((Keeps.set _ _).mono (by simp))))))))
      · rw[Uq (λz=>har z.symm)];exact ga7
      · rw[Z4 gr7,U1,U1,U1];rfl
      · rcases Up.mp ht with z|z
        · rcases Up.mp z with z|z
          · rcases Up.mp z with z|z
            · exact hts t z
            · exact o2 t (u1 t z)
          · rw[Ug.mp z]
            exact⟨w1,w2,UD _ (by decide),w3,by have:=UL (q/30) (show(0:Int)<4 by decide);omega⟩
        · exact o2 t (v1 t z)
      · simp;omega
      · simp;omega
theorem QcP(ns:List Int){a r sg most:Nat}(hs:0<sg)(har:a≠r)(hm:most<=4):∀(n:Nat)(ts:List Tk)(k:Int)(x5 x6 x7:Option D)(g:G),most-ts.length<=n->g[a]?=some (.lst [.int k])->g[r]?=some (.lst (ts.map tkD))->0<=k->k+3*n<800000000->(∀t∈ts,TkL sg t)->ts.length<=18 ->
    ∃(f:Nat)(ts':List Tk)(k':Int)(g':G),k<=k'/\k'<=k+3*n/\Keeps [a,r] g g'/\g'[a]?=some (.lst [.int k'])/\g'[r]?=some (.lst (ts'.map tkD))/\(∀t∈ts',TkL sg t)/\ts'.length<=18 /\
      (ZH (Qj (mOp2 pLt (mOp1 pLen (mVar 4)) (mVar 3))) Yv f [some (.fl (ns.map .int)),some (.ref a),some (.int sg),some (.int most),some (.ref r),x5,x6,x7] g=.rt (.ref r) g' \/
       ∃y5 y6 y7,ZH (Qj (mOp2 pLt (mOp1 pLen (mVar 4)) (mVar 3))) Yv f [some (.fl (ns.map .int)),some (.ref a),some (.int sg),some (.int most),some (.ref r),x5,x6,x7] g=.nx [some (.fl (ns.map .int)),some (.ref a),some (.int sg),some (.int most),some (.ref r),y5,y6,y7] g')
  |n,ts,k,x5,x6,x7,g,hn,ga,gr,hk,hk2,hts,hl=>by
    have c1:Qj (mOp2 pLt (mOp1 pLen (mVar 4)) (mVar 3)) [some (.fl (ns.map .int)),some (.ref a),some (.int sg),some (.int most),some (.ref r),x5,x6,x7] g=.ok (decide ((ts.length:Int)<most)) g:=Zz (Qw (x:=.int ts.length) (y:=.int most) (g1:=g) (g2:=g) (Z3 (x:=.ref r) (g1:=g) rfl (by unfold pLen;dsimp only;rw[gr];dsimp only;rw[Ud])) rfl rfl)
    by_cases hlt:ts.length<most
    · rw[Uy (by omega)]at c1
      obtain⟨m,rfl⟩:∃m,n=m+1:=⟨n-1,by omega⟩
      obtain⟨ts1,k1,g1,a1,a2,a3,a4,a5,a6,h⟩:=QfG ns (x3:=some (.int most)) (x5:=x5) (x6:=x6) (x7:=x7) hs ga gr har hk (by omega) hts (by omega)
      rcases h with⟨h1,h2⟩|⟨y5,y6,y7,h1,h2,h3⟩
      · refine⟨1,ts1,k1,g1,a1,by omega,a3,a4,a5,a6,by rw[h2];exact hl,.inl ?_⟩
        unfold ZH
        rw[c1];dsimp only;rw[h1]
      · obtain⟨f,ts2,k2,g2,b1,b2,b3,b4,b5,b6,b7,b8⟩:=QcP ns hs har hm m ts1 k1 y5 y6 y7 g1 (by omega) a4 a5 (by omega) (by omega) a6 (by omega)
        refine⟨f+1,ts2,k2,g2,by omega,by omega,a3.trans b3,b4,b5,b6,b7,?_⟩
        unfold ZH
        rw[c1];dsimp only;rw[h1];exact b8
    · rw[Uo (by omega)]at c1
      refine⟨1,ts,k,g,by omega,by omega,.refl,ga,gr,hts,hl,.inr ⟨x5,x6,x7,?_⟩⟩
      unfold ZH
      rw[c1]
  termination_by n=>n
theorem Qe7(ns:List Int){a sg most:Nat}{k:Int}{g:G}(hs:0<sg)(hm:most<=4)(ga:g[a]?=some (.lst [.int k]))(hk:0<=k)(hk2:k<700000000):
  ∃(r:Nat)(ts:List Tk)(k':Int)(g':G),QaP [.fl (ns.map .int),.ref a,.int sg,.int most] g=.ok (.ref r) g'/\g.length<=r/\g'[r]?=some (.lst (ts.map tkD))/\(∀t∈ts,TkL sg t)/\ts.length<=18/\k<=k'/\k'<=k+12/\Keeps [a] g g'/\g'[a]?=some (.lst [.int k']):=by
 have k0:Keeps [] g (g++[.lst []]):=.push _
 have p0:(g++[GO.lst []])[g.length]?=some (.lst []):=Qo _
 have hal:=Yq ga
 obtain⟨f,ts,k',g',a1,a2,a3,a4,a5,a6,a7,h⟩:=QcP ns (a:=a) (r:=g.length) (sg:=sg) (most:=most) hs (by omega) hm 4 [] k none none none (g++[.lst []]) (by simp;omega) (k0.at' _ _ (by simp) ga) p0 hk (by omega) (λt h=>by cases h) (Bq _)
 have kk:Keeps [a] g g':=⟨Uw k0.len a3.len,λi o hi h=>a3.at' _ _ (by have:=Yq h;simp at hi ⊢;omega) (k0.at' _ _ (by simp) h)⟩
 refine⟨g.length,ts,k',g',ZR rfl ?_,Ul _,a5,a6,a7,a1,by omega,kk,a4⟩
 show QbT [some (.fl (ns.map .int)),some (.ref a),some (.int sg),some (.int most),none,none,none,none] g=_
 unfold QbT
 refine Ql [some (.fl (ns.map .int)),some (.ref a),some (.int sg),some (.int most),some (.ref g.length),none,none,none] (g++[.lst []]) (ZG rfl) ?_
 rcases h with h|⟨y5,y6,y7,h⟩
 ·exact Y8 (Qcs h (λz=>by cases z))
 ·exact Ql _ g' (Qcs h (λz=>by cases z)) rfl
theorem Qod(i:Int)(g:G):∃f,lrS f/\pIx (.str "lr") (.int (i%2)) g=.ok (.str f) g:=by
 rw[s_lr]
 rcases(by omega:i%2=0\/i%2=1) with e|e
 ·rw[e]
  refine⟨Str.ofString "l",.inl rfl,?_⟩
  rw[s_l]
  unfold pIx
  dsimp only
  rw[Uh (by decide)]
  rfl
 ·rw[e]
  refine⟨Str.ofString "r",.inr rfl,?_⟩
  rw[s_r]
  unfold pIx
  dsimp only
  rw[Uh (by decide)]
  rfl
theorem QiF(ns:List Int){a states sg:Nat}{k:Int}{g:G}(hst:0<states)(hs:0<sg)(ga:g[a]?=some (.lst [.int k]))(hk:0<=k)(hk2:k<600000000):
  ∃(st:Int)(f:Str)(l r:Nat)(tl tr:List Tk)(k':Int)(g':G),QcK [.fl (ns.map .int),.ref a,.int states,.int sg] g=.ok (.tup [.int st,.str f,.ref l,.ref r]) g'/\(0<=st/\st<states)/\lrS f/\g'[l]?=some (.lst (tl.map tkD))/\g'[r]?=some (.lst (tr.map tkD))/\(∀t∈tl,TkL sg t)/\(∀t∈tr,TkL sg t)/\tl.length<=18/\tr.length<=18/\k<=k'/\k'<=k+25/\Keeps [a] g g'/\g'[a]?=some (.lst [.int k'])/\g.length<=l/\l<r:=by
 obtain⟨q,q0,q1,e1⟩:=Qbf ns a k g ga hk (by omega)
 have k1:Keeps [a] g (g.set a (.lst [.int (k+1)])):=.set _ _
 have ga1:(g.set a (.lst [.int (k+1)]))[a]?=some (.lst [.int (k+1)]):=Z4 ga
 generalize g.set a (.lst [.int (k+1)])=g1 at e1 k1 ga1
 have hal:=Yq ga
 obtain⟨l,tl,kl,g2,e2,l1,l2,l3,l4,l5,l6,l7,l8⟩:=Qe7 ns (most:=(q/2%5).toNat) hs (by omega) ga1 (by omega) (by omega)
 obtain⟨r,tr,kr,g3,e3,r1,r2,r3,r4,r5,r6,r7,r8⟩:=Qe7 ns (most:=(q/10%5).toNat) hs (by omega) l8 (by omega) (by omega)
 rw[show(((q/2%5).toNat:Nat):Int)=q/2%5 by omega]at e2
 rw[show(((q/10%5).toNat:Nat):Int)=q/10%5 by omega]at e3
 obtain⟨f,hf,ef⟩:=Qod q g3
 have hll:=Yq l2
 have:=k1.len
 refine⟨q/50%states,f,l,r,tl,tr,kr,g3,ZR rfl ?_,⟨UD _ (by omega),UL _ (by omega)⟩,hf,r7.at' _ _ (by simp;omega) l2,r2,l3,r3,l4,r4,by omega,by omega,k1.trans (l7.trans r7),r8,by omega,by omega⟩
 show QcJ [some (.fl (ns.map .int)),some (.ref a),some (.int states),some (.int sg),none,none,none] g=_
 unfold QcJ
 refine Ql [some (.fl (ns.map .int)),some (.ref a),some (.int states),some (.int sg),some (.int q),none,none] g1 (ZG (by rw[Zo (ds:=[.fl (ns.map .int),.ref a]) (g':=g) rfl];exact e1)) ?_
 refine Ql [some (.fl (ns.map .int)),some (.ref a),some (.int states),some (.int sg),some (.int q),some (.ref l),none] g2 (ZG ?_) ?_
 ·rw[Zo (ds:=[.fl (ns.map .int),.ref a,.int sg,.int (q/2%5)]) (g':=g1) (Qx (g1:=g1) rfl (Qx (g1:=g1) rfl (Qx (g1:=g1) rfl (Qx (g1:=g1) (Qw (g1:=g1) (g2:=g1) (Qw (g1:=g1) (g2:=g1) rfl rfl (divP (by decide) (by decide))) rfl (modP (by decide))) rfl))))]
  exact e2
 refine Ql [some (.fl (ns.map .int)),some (.ref a),some (.int states),some (.int sg),some (.int q),some (.ref l),some (.ref r)] g3 (ZG ?_) (Yz ?_)
 ·rw[Zo (ds:=[.fl (ns.map .int),.ref a,.int sg,.int (q/10%5)]) (g':=g2) (Qx (g1:=g2) rfl (Qx (g1:=g2) rfl (Qx (g1:=g2) rfl (Qx (g1:=g2) (Qw (g1:=g2) (g2:=g2) (Qw (g1:=g2) (g2:=g2) rfl rfl (divP (by decide) (by decide))) rfl (modP (by decide))) rfl))))]
  exact e3
 ·exact JK (Qx (g1:=g3) (Qw (y:=.int states) (g1:=g3) (g2:=g3) (Qw (g1:=g3) (g2:=g3) rfl rfl (divP (by decide) (by decide))) rfl (modP (by omega))) (Qx (g1:=g3) (Qw (x:=.str "lr") (y:=.int (q%2)) (g1:=g3) (g2:=g3) rfl (Qw rfl rfl (modP (by decide))) ef) (Qx (g1:=g3) rfl (Qx (g1:=g3) rfl rfl)))) rfl
theorem QgF{st:Int}{f:Str}{l r:Nat}{xs ys:List D}{g:G}(hl:g[l]?=some (.lst xs))(hr:g[r]?=some (.lst ys)):QaQ [.tup [.int st,.str f,.ref l,.ref r]] g=.ok (.tup [.int st,.str f,.tup xs,.tup ys]) g:=by
 refine ZR rfl ?_
 show Qd8 [some (.tup [.int st,.str f,.ref l,.ref r]),none,none,none,none] g=_
 unfold Qd8
 refine Ql [some (.tup [.int st,.str f,.ref l,.ref r]),some (.int st),some (.str f),some (.ref l),some (.ref r)] g rfl (Yz ?_)
 have p1:QZ (.ref l) g=.ok (.tup xs) g:=by unfold QZ;dsimp only;rw[hl]
 have p2:QZ (.ref r) g=.ok (.tup ys) g:=by unfold QZ;dsimp only;rw[hr]
 exact JK (Qx (g1:=g) rfl (Qx (g1:=g) rfl (Qx (g1:=g) (Z3 (x:=.ref l) (g1:=g) rfl p1) (Qx (g1:=g) (Z3 (x:=.ref r) (g1:=g) rfl p2) rfl)))) rfl
inductive Sm(g:G):Nat->D->D->Prop
 |int (f:Nat) (i:Int):Sm g (f+1) (.int i) (.int i)
 |str (f:Nat) (s:Str):Sm g (f+1) (.str s) (.str s)
 |seq (f:Nat) (x y:D) (b:Bool) (xs ys:List D) (h1:QK g x=some (b,xs)) (h2:QK g y=some (b,ys)) (hl:xs.length=ys.length) (hz:xs.length<=100000) (hi:∀(i:Nat) u v,xs[i]?=some u->ys[i]?=some v->Sm g f u v):Sm g (f+1) x y
theorem QfH{g:G}{x:D}{b:Bool}{xs:List D}(h:QK g x=some (b,xs)):pLen x g=.ok (.int xs.length) g:=by
 cases x with
 |ref n =>
  unfold QK at h
  unfold pLen
  dsimp only at h ⊢
  cases hg:g[n]? with
  |none=>rw[hg]at h;cases h
  |some o =>
   rw[hg]at h
   cases o with
   |lst ds=>cases h;rfl
   |_=>cases h
 |tup ds=>cases h;rfl
 |fl ds=>cases h;rfl
 |_=>cases h
theorem Qe8:∀n:Nat,allB (List.replicate n (.bl true))=some true
 |0=>rfl
 |n+1=>by rw[UM];unfold allB;rw[Qe8 n];rfl
theorem QiG{g:G}:∀{f:Nat}{x y:D},Sm g f x y->∀g1,Keeps [] g g1->∃g2,Yb f [x,y] g1=.ok (.bl true) g2/\Keeps [] g1 g2
 |0,_,_,h,_,_=>by cases h
 |f+1,x,y,h,g1,k=>by
  cases h with
  |int _ i =>
   refine⟨g1,ZR rfl ?_,.refl⟩
   show JU (Yb f) [some (.int i),some (.int i)] g1=_
   unfold JU
   refine Ql [some (.int i),some (.int i)] g1 rfl (Ql [some (.int i),some (.int i)] g1 rfl (Ql [some (.int i),some (.int i)] g1 rfl (Yz ?_)))
   have e:pEq (.int i) (.int i) g1=.ok (.bl true) g1:=by rw[eq_int,Tn]
   show mOp2 pEq (mVar 0) (mVar 1) [some (.int i),some (.int i)] g1=_
   exact Qw (x:=.int i) (y:=.int i) (g1:=g1) (g2:=g1) rfl rfl e
  |str _ s =>
   refine⟨g1,ZR rfl ?_,.refl⟩
   show JU (Yb f) [some (.str s),some (.str s)] g1=_
   unfold JU
   refine Ql [some (.str s),some (.str s)] g1 rfl (Ql [some (.str s),some (.str s)] g1 rfl (Y8 (ift g1 rfl (Yz ?_))))
   have e:pEq (.str s) (.str s) g1=.ok (.bl true) g1:=by rw[eq_s,Jm]
   exact Qb5 (g1:=g1) rfl (Qw (x:=.str s) (y:=.str s) (g1:=g1) (g2:=g1) rfl rfl e)
  |seq _ _ _ b xs ys h1 h2 hl hz hi =>
   have s1:=QF h1 k
   have s2:=QF h2 k
   obtain⟨src,e1,e2,e3⟩:=QlH s1 s2 hl
   obtain⟨ds,σ',g2,c1,c2,c3,_⟩:=Yy (src:=src) (t:=JO [gSet 0,gSet 1]) (c:=ZX) (e:=Qr (Yb f) (Qa (mVar 0) (Qa (mVar 1) mNil))) (n:=xs.length)
    (λi σ' g4 acc=>acc=List.replicate i (.bl true)/\Keeps [] g1 g4/\∃u v,σ'=[u,v]) (λi σ' g4 acc hi' hQ=>by
     obtain⟨q1,q2,u,v,q3⟩:=hQ
     subst q3
     have hy:i<ys.length:=by omega
     obtain⟨g5,a1,a2⟩:=QiG (hi i xs[i] ys[i] (by simp[hi']) (by simp[hy])) g4 (k.trans q2)
     refine⟨.tup [xs[i],ys[i]],[some xs[i],some ys[i]],g4,(e3 g4 (QF s1 q2) (QF s2 q2)).2 i _ _ (by simp[hi']) (by simp[hy]),rfl,.inl ⟨.bl true,g5,rfl,?_,?_,q2.trans a2,_,_,rfl⟩⟩
     ·rw[Zo (ds:=[xs[i],ys[i]]) (g':=g4) rfl];exact a1
     ·rw[q1,List.replicate_succ']) (λσ g4 acc hQ=>(e3 g4 (QF s1 hQ.2.1) (QF s2 hQ.2.1)).1) (src.top+1) 0 [none,none] g1 [] (by omega) (by omega) ⟨rfl,.refl,none,none,rfl⟩
   subst c2
   have c4:=Qbg (it:=QeR (mVar 0) (mVar 1)) (n:=2) (cap:=[]) (σ:=[some x,some y]) (t:=JO [gSet 0,gSet 1]) (c:=ZX) (σ0:=[none,none]) (g:=g1) (by
    unfold QeR
    rw[show mVar 0 [some x,some y] g1=.ok x g1 from rfl,Res.bind_ok,show mVar 1 [some x,some y] g1=.ok y g1 from rfl,Res.bind_ok]
    exact e1) (by rw[e2];exact UU (QbE hz)) rfl c1
   have kk:Keeps [] g2 (g2++[.lst (List.replicate xs.length (.bl true))]):=.push _
   refine⟨_,ZR rfl ?_,c3.trans kk⟩
   show JU (Yb f) [some x,some y] g1=_
   have ty1:=Qec s1
   have ty2:=Qec s2
   have is0:∀c:Ty,mOp1 (ZS c) (mVar 0) [some x,some y] g1=.ok (.bl (tyLe (if b then .list else .tuple) c)) g1:=λc=>Z3 (x:=x) (g1:=g1) rfl (by unfold ZS;rw[ty1])
   have is1:∀c:Ty,mOp1 (ZS c) (mVar 1) [some x,some y] g1=.ok (.bl (tyLe (if b then .list else .tuple) c)) g1:=λc=>Z3 (x:=y) (g1:=g1) rfl (by unfold ZS;rw[ty2])
   have ne:∀c:Ty,Qj (mOp2 pNe (mOp1 (ZS c) (mVar 0)) (mOp1 (ZS c) (mVar 1))) [some x,some y] g1=.ok false g1:=λc=>Zz (Qw (is0 c) (is1 c) (by cases (tyLe (if b then .list else .tuple) c) <;> rfl))
   have t1:mOrT (Qj (mOp1 (ZS .list) (mVar 1))) (Qj (mOp1 (ZS .tuple) (mVar 1))) [some x,some y] g1=.ok true g1:=by
    unfold mOrT
    rw[Zz (is1 .list),Res.bind_ok,Zz (is1 .tuple)]
    cases b <;> rfl
   have e5:mOp2 pEq (mOp1 pLen (mVar 0)) (mOp1 pLen (mVar 1)) [some x,some y] g1=.ok (.bl true) g1:=Qw (x:=.int xs.length) (y:=.int ys.length) (g1:=g1) (g2:=g1) (Z3 (x:=x) (g1:=g1) rfl (QfH s1)) (Z3 (x:=y) (g1:=g1) rfl (QfH s2)) (by rw[eq_int,hl,Tn])
   unfold JU
   have td:Qj (mOp1 (ZS .dict) (mVar 1)) [some x,some y] g1=.ok false g1:=by rw[Zz (is1 .dict)];cases b <;> rfl
   refine Ql [some x,some y] g1 (iff' g1 td rfl) (Y8 (ift g1 t1 (Ql [some x,some y] g1 (iff' g1 (Qni (ne .list) (ne .tuple)) rfl) (Yz ?_))))
   unfold mAnd
   rw[e5,Res.bind_ok]
   dsimp only
   rw[Uh rfl]
   refine Z3 c4 ?_
   unfold pAll
   dsimp only
   rw[Qo]
   dsimp only
   rw[Qe8]
theorem Qnj{g:G}{f:Nat}{ds:List D}(hz:ds.length<=100000)(h:∀u∈ds,Sm g f u u):Sm g (f+1) (.tup ds) (.tup ds):=.seq _ _ _ false ds ds rfl rfl rfl hz (λi u v h1 h2=>by
 rw[h1]at h2;cases h2
 exact h u (U3 h1))
section
variable{σ:S3}{g:G}
@[simp] theorem QoU{k n:Nat}{b:MS}{ds:List D}:mDef k n b ds g=if ds.length=k then (match b (ds.map some++List.replicate n none) g with | .nx _ g'=>.ok .non g' | .rt d g'=>.ok d g' | .raise e _ g'=>.raise e g'|_=>.stuck) else .stuck:=rfl
@[simp] theorem Qnk:Qy σ g=.ok none g:=rfl
@[simp] theorem Qoe{a:ME}:Q0 a σ g=(match a σ g with | .ok (.int i) g1=>.ok (some i) g1 | .raise e g'=>.raise e g'|_=>.stuck):=by unfold Q0 Res.bind;cases a σ g with|ok d g1=>cases d <;> rfl|_=>rfl
@[simp] theorem QnA{a:ME}{lo hi:MO}:QH a lo hi σ g=(match a σ g with
 |.ok x g1=>(match lo σ g1 with
  |.ok l g2=>(match hi σ g2 with | .ok h g3=>Qbo x l h g3 | .raise e g'=>.raise e g' | .stuck=>.stuck)
  |.raise e g'=>.raise e g' | .stuck=>.stuck)
 |.raise e g'=>.raise e g' | .stuck=>.stuck):=by
 unfold QH Res.bind;cases a σ g with
 |ok x g1=>dsimp only;cases lo σ g1 with
  |ok l g2=>dsimp only;cases hi σ g2 <;> rfl
  |_=>rfl
 |_=>rfl
@[simp] theorem QnB{c:Nat}{t:Str}:Zv c (Qa (mLit (.str t)) mNil) σ g=.raise (c,none) σ g:=QgB _ _ _ _
@[simp] theorem Qnl{ds:List D}{lo hi:Option Int}:Qbo (.tup ds) lo hi g=.ok (.tup (cutD ds lo hi)) g:=rfl
@[simp] theorem Qof{ds:List D}:pLen (.tup ds) g=.ok (.int ds.length) g:=rfl
@[simp] theorem Qog{ds:List D}:QZ (.tup ds) g=.ok (.tup ds) g:=rfl
@[simp] theorem Qpd{x:D}:pIs x .non g=.ok (.bl (isNon x)) g:=rfl
@[simp] theorem QnC{x:D}:QeS x .non g=.ok (.bl (!isNon x)) g:=rfl
@[simp] theorem QoV{s t:Str}:pEq (.str s) (.str t) g=.ok (.bl (s == t)) g:=rfl
@[simp] theorem QoW{s t:Str}:pNe (.str s) (.str t) g=.ok (.bl (!(s == t))) g:=rfl
@[simp] theorem QoX{a b:Bool}:pEq (.bl a) (.bl b) g=.ok (.bl (a == b)) g:=rfl
@[simp] theorem QoY{a b:Bool}:pNe (.bl a) (.bl b) g=.ok (.bl (!(a == b))) g:=rfl
@[simp] theorem Qoh{b:Bool}:pInt (.bl b) g=.ok (.int (if b then 1 else 0)) g:=rfl
@[simp] theorem Qoi:pTup [] g=.ok (.tup []) g:=rfl
@[simp] theorem Qoj{a:D}:pTup [a] g=.ok (.tup [a]) g:=rfl
@[simp] theorem Qok{a b:D}:pTup [a,b] g=.ok (.tup [a,b]) g:=rfl
@[simp] theorem Qol{a b c:D}:pTup [a,b,c] g=.ok (.tup [a,b,c]) g:=rfl
@[simp] theorem Qom{a b c d:D}:pTup [a,b,c,d] g=.ok (.tup [a,b,c,d]) g:=rfl
@[simp] theorem Qon{a b:D}:newL [a,b] g=.ok (.ref g.length) (g++[.lst [a,b]]):=rfl
@[simp] theorem Qnm{ds:List D}:pIx (.ref g.length) (.int 0) (g++[.lst ds])=(match atD ds 0 with|some d=>.ok d (g++[.lst ds])|none=>.stuck):=by unfold pIx;dsimp only;rw[Qo];try rfl
@[simp] theorem Qnn{ds:List D}:pIx (.ref g.length) (.int 1) (g++[.lst ds])=(match atD ds 1 with|some d=>.ok d (g++[.lst ds])|none=>.stuck):=by unfold pIx;dsimp only;rw[Qo];try rfl
@[simp] theorem at0{α:Type}{a:α}{xs:List α}:atD (a::xs) 0=some a:=by simp[atD,ixD]
@[simp] theorem at1{α:Type}{a b:α}{xs:List α}:atD (a::b::xs) 1=some b:=by
 have:(1:Int)<(xs.length:Int)+1+1:=by omega
 simp[atD,ixD,this]
@[simp] theorem at2{α:Type}{a b c:α}{xs:List α}:atD (a::b::c::xs) 2=some c:=by
 have:(2:Int)<(xs.length:Int)+1+1+1:=by omega
 simp[atD,ixD,this]
@[simp] theorem at3{α:Type}{a b c d:α}{xs:List α}:atD (a::b::c::d::xs) 3=some d:=by
 have:(3:Int)<(xs.length:Int)+1+1+1+1:=by omega
 simp[atD,ixD,this]
@[simp] theorem atL{α:Type}{a:α}{xs:List α}:atD (xs++[a]) (-1)=some a:=by
 have:(-1+((xs.length:Int)+1)).toNat=xs.length:=by omega
 have h:(1:Int)<=(xs.length:Int)+1:=by omega
 simp[atD,ixD,this,h]
theorem atN{α:Type}{xs:List α}{n:Nat}{d:α}(h:xs[n]?=some d):atD xs n=some d:=by
 have:=(Uf.mp h).1
 unfold atD ixD;rw[Uh (by omega),Uh (by omega)];simp[h]
@[simp] theorem QoZ{ds:List D}{i:Int}:pIx (.tup ds) (.int i) g=(match atD ds i with|some d=>.ok d g|none=>.stuck):=rfl
theorem Qaw{xs ys:List D}(h:xs.length+ys.length<=100000):pAdd (.tup xs) (.tup ys) g=.ok (.tup (xs++ys)) g:=by unfold pAdd;dsimp only;rw[Uh (UU (QbE h))]
end
@[simp] theorem QnD{α:Type}{xs:List α}{d:α}:cutD (xs++[d]) (some (-1)) none=[d]:=by
 have:(-1+((xs.length:Int)+1)).toNat=xs.length:=by omega
 simp[cutD,sIxD,this]
@[simp] theorem Qoo{α:Type}{a b:Option Int}:cutD ([]:List α) a b=[]:=by simp[cutD]
@[simp] theorem Qno{α:Type}{xs:List α}{d:α}:cutD (d::xs) none (some 1)=[d]:=by
 have:min 1 (xs.length+1)=1:=by omega
 simp[cutD,sIxD,this]
@[simp] theorem QnE{α:Type}{xs:List α}:cutD xs (some 1) none=xs.tail:=by
 cases xs with
 |nil=>simp
 |cons a r =>
  have:min 1 (r.length+1)=1:=by omega
  simp[cutD,sIxD,this]
@[simp] theorem QnF{α:Type}{xs:List α}:cutD xs none (some (-1))=xs.dropLast:=by
 have:(-1+(xs.length:Int)).toNat=xs.length-1:=by omega
 simp[cutD,sIxD,this,Tz]
theorem QiH{α:Type}{xs:List α}(n:Nat):cutD xs none (some (n:Int))=xs.take n:=by
 have:¬((n:Int)<0):=by omega
 simp[cutD,sIxD,this,List.take_eq_take_iff]
theorem Qee{α:Type}{xs:List α}(n:Nat):cutD xs (some (n:Int)) none=xs.drop n:=by
 have:¬((n:Int)<0):=by omega
 simp only[cutD,sIxD,this,Rr,T4]
 rw[T3 (by rw[T9];omega)]
 by_cases h:n<=xs.length
 ·rw[Nat.min_eq_left h]
 ·rw[Nat.min_eq_right (by omega),List.drop_length,List.drop_eq_nil_of_le (by omega)]
noncomputable def fc(b:Bool):Str:=if b then Str.ofString "r" else Str.ofString "l"
theorem l_r:(Str.ofString "l" == Str.ofString "r")=false:=by rw[s_l,s_r];rfl
theorem r_l:(Str.ofString "r" == Str.ofString "l")=false:=by rw[s_l,s_r];rfl
@[simp] theorem fc_r{b:Bool}:(fc b == Str.ofString "r")=b:=by cases b;exact l_r;exact Jm _
@[simp] theorem fc_l{b:Bool}:(fc b == Str.ofString "l") = !b:=by cases b;exact Jm _;exact r_l
@[simp] theorem Qpe{a b:Bool}:(fc a == fc b)=(a == b):=by cases b;rw[show fc false=Str.ofString "l" from rfl,fc_l];cases a <;> rfl;rw[show fc true=Str.ofString "r" from rfl,fc_r];cases a <;> rfl
theorem lrS.fc{f:Str}(h:lrS f):∃b,f=fc b:=by
 rcases h with rfl|rfl
 ·exact⟨false,rfl⟩
 ·exact⟨true,rfl⟩
theorem fc.lr(b:Bool):lrS (fc b):=by cases b;exact .inl rfl;exact .inr rfl
@[simp] theorem Qpf:Str.ofString "r" = fc true:=rfl
@[simp] theorem Qpg:Str.ofString "l" = fc false:=rfl
noncomputable def shD(st:Int)(b:Bool)(L R:List D):D:=.tup [.int st,.str (fc b),.tup L,.tup R]
noncomputable def ahd(b:Bool)(L R:List D):Option D:=if b then R.head? else L.getLast?
noncomputable def rsL(b:Bool)(L:List D):List D:=if b then L else L.dropLast
noncomputable def rsR(b:Bool)(R:List D):List D:=if b then R.tail else R
theorem Qa4{st:Int}{b:Bool}{L R:List D}{g:G}:ZZ [shD st b L R] g=.ok ((ahd b L R).getD .non) g:=by
 cases b
 ·rcases TB L with rfl|⟨L,d,rfl⟩ <;> simp[ZZ,JR,shD,ahd]
 ·cases R <;> simp[ZZ,JR,shD,ahd]
theorem QcQ{st:Int}{b:Bool}{L R X:List D}{g:G}(hz:L.length+R.length+X.length<=10000):Q5 [shD st b L R,.tup X] g=.ok (if b then shD st b L (X++R.tail) else shD st b (L.dropLast++X) R) g:=by
 cases b
 ·simp[Q5,Yf,shD,Qaw (g:=g) (xs:=L.dropLast) (ys:=X) (by simp;omega)]
 ·simp[Q5,Yf,shD,Qaw (g:=g) (xs:=X) (ys:=R.tail) (by simp;omega)]
noncomputable def gone(b:Bool)(L R:List D)(s:Int)(w:Bool)(t:D):D:=if w then shD s w (rsL b L++[t]) (rsR b R) else shD s w (rsL b L) (t::rsR b R)
theorem QiI{st s:Int}{b w:Bool}{L R:List D}{t:D}{g:G}(hz:L.length+R.length<=1000):Qaq [shD st b L R,.int s,.str (fc w),t] g=.ok (gone b L R s w t) g:=by
 have e:=QcQ (st:=st) (b:=b) (L:=L) (R:=R) (X:=[]) (g:=g) (by simp;omega)
 have a1:pAdd (.tup (rsL b L)) (.tup [t]) g=.ok (.tup (rsL b L++[t])) g:=Qaw (by unfold rsL;split <;> simp <;> omega)
 have a2:pAdd (.tup [t]) (.tup (rsR b R)) g=.ok (.tup (t::rsR b R)) g:=Qaw (by unfold rsR;split <;> simp <;> omega)
 unfold rsL at a1
 unfold rsR at a2
 cases b <;> cases w <;> simp[shD]at e a1 a2 <;> simp[Qaq,QeZ,shD,e,gone,a1,a2,rsL,rsR]
section
variable{σ:S3}{g:G}
@[simp] theorem Qop{i j k:Nat}{a:ME}:mAsg (JO [gSet i,gSet j,gSet k]) a σ g=(match a σ g with | .ok (.tup [x,y,z]) g'=>.nx (((σ.set i (some x)).set j (some y)).set k (some z)) g' | .ok _ _=>.stuck | .raise e g'=>.raise e σ g' | .stuck=>.stuck):=by
 unfold mAsg;cases a σ g with
 |ok d g'=>cases d with
  |tup ds=>match ds with
   |[]=>rfl
   |[_]=>rfl
   |[_,_]=>rfl
   |[_,_,_]=>rfl
   |_::_::_::_::_=>rfl
  |_=>rfl
 |_=>rfl
@[simp] theorem Qoq{i j k l:Nat}{a:ME}:mAsg (JO [gSet i,gSet j,gSet k,gSet l]) a σ g=(match a σ g with | .ok (.tup [x,y,z,w]) g'=>.nx ((((σ.set i (some x)).set j (some y)).set k (some z)).set l (some w)) g' | .ok _ _=>.stuck | .raise e g'=>.raise e σ g' | .stuck=>.stuck):=by
 unfold mAsg;cases a σ g with
 |ok d g'=>cases d with
  |tup ds=>match ds with
   |[]=>rfl
   |[_]=>rfl
   |[_,_]=>rfl
   |[_,_,_]=>rfl
   |[_,_,_,_]=>rfl
   |_::_::_::_::_::_=>rfl
  |_=>rfl
 |_=>rfl
end
@[simp] theorem s_om:(Str.ofString "one" == Str.ofString "many")=false:=QjX
@[simp] theorem s_mo:(Str.ofString "many" == Str.ofString "one")=false:=QjW
@[simp] theorem s_ss{s:Str}:(s == s)=true:=Jm s
@[simp] theorem Qo0{t:Tk}:isNon (tkD t)=false:=by cases t <;> rfl
noncomputable def ahT(b:Bool)(L R:List Tk):Option Tk:=if b then R.head? else L.getLast?
theorem QcR{b:Bool}{L R:List Tk}:ahd b (L.map tkD) (R.map tkD)=(ahT b L R).map tkD:=by cases b <;> simp[ahd,ahT]
theorem Qax{b:Bool}{L R:List Tk}{t:Tk}{P:Tk->Prop}(h:ahT b L R=some t)(hL:∀t∈L,P t)(hR:∀t∈R,P t):P t:=by
 cases b
 ·exact hL t (List.mem_of_getLast? h)
 ·exact hR t (List.mem_of_head? h)
theorem Qef{st:Int}{b:Bool}{L R:List D}{g:G}:Ya [shD st b L R] g=.ok (.tup [(ahd b L R).getD .non,.tup (rsL b L),.tup (rsR b R)]) g:=by
 cases b
 ·rcases TB L with rfl|⟨L,d,rfl⟩
  ·simp[Ya,Qar,shD,ahd,rsL,rsR]
  ·have:¬((L.length:Int)+1=0):=by omega
   simp[Ya,Qar,shD,ahd,rsL,rsR,this]
 ·cases R with
  |nil=>simp[Ya,Qar,shD,ahd,rsL,rsR]
  |cons d R =>
   have:¬((R.length:Int)+1=0):=by omega
   simp[Ya,Qar,shD,ahd,rsL,rsR,this]
structure Tbl(rows:List (List D))(n m:Nat):Prop where
 n0:0<n
 m0:0<m
 len:rows.length=n
 row:∀r∈rows,r.length=m
 ent:∀r∈rows,∀d∈r,entOk d n m
noncomputable abbrev En:=Option (Int×Bool×Int)
noncomputable def enc:En->D
 |none=>.non
 |some (a,w,s)=>.tup [.int a,.str (fc w),.int s]
noncomputable def dec:D->En
 |.tup [.int a,.str w,.int s]=>some (a,w == Str.ofString "r",s)
 |_=>none
noncomputable def en(rows:List (List D))(st s:Int):En:=dec (((rows[st.toNat]?.getD [])[s.toNat]?).getD .non)
theorem QlM{d:D}{n m:Nat}(h:entOk d n m):d=enc (dec d)/\∀a w s,dec d=some (a,w,s)->(0<=a/\a<m)/\0<=s/\s<n:=by
 rcases h with rfl|⟨i,j,w,rfl,h1,h2,h3,h4,h5⟩
 ·exact⟨rfl,λa w s h=>by cases h⟩
 ·refine⟨?_,λa w s h=>by cases h;exact⟨⟨h1,h2⟩,h3,h4⟩⟩
  rcases h5 with rfl|rfl
  ·rw[<-s_l];show _=enc (some (i,(fc false == Str.ofString "r"),j));rw[fc_r];rfl
  ·rw[<-s_r];show _=enc (some (i,(fc true == Str.ofString "r"),j));rw[fc_r];rfl
theorem Tbl.at'{rows:List (List D)}{n m:Nat}(h:Tbl rows n m){st s:Int}(h0:0<=st)(h1:st<n)(h2:0<=s)(h3:s<m):
  ∃r,rows[st.toNat]?=some r/\r[s.toNat]?=some (enc (en rows st s))/\∀a w s',en rows st s=some (a,w,s')->(0<=a/\a<m)/\0<=s'/\s'<n:=by
 have hl:=h.len
 have e1:rows[st.toNat]?=some rows[st.toNat]:=UG (by omega)
 have hr:=UR (l:=rows) (n:=st.toNat) (by omega)
 have hm:=h.row _ hr
 have e2:(rows[st.toNat])[s.toNat]?=some ((rows[st.toNat])[s.toNat]):=UG (by omega)
 obtain⟨q1,q2⟩:=QlM (h.ent _ hr _ (UR (l:=rows[st.toNat]) (n:=s.toNat) (by omega)))
 have e3:en rows st s=dec ((rows[st.toNat])[s.toNat]):=by unfold en;rw[e1,RV,e2,RV]
 exact⟨_,e1,by rw[e3,<-q1];exact e2,by rw[e3];exact q2⟩
theorem Tbl.prog{rows:List (List D)}{n m:Nat}(h:Tbl rows n m){st s:Int}(h0:0<=st)(h1:st<n)(h2:0<=s)(h3:s<m):∃r,atD (rows.map D.tup) st=some (.tup r)/\atD r s=some (enc (en rows st s)):=by
 obtain⟨r,e1,e2,_⟩:=h.at' h0 h1 h2 h3
 have a1:((st.toNat:Nat):Int)=st:=by omega
 have a2:((s.toNat:Nat):Int)=s:=by omega
 refine⟨r,?_,?_⟩
 ·rw[<-a1];exact atN (by rw[UB,e1];rfl)
 ·rw[<-a2];exact atN e2
theorem Tbl.law{rows:List (List D)}{n m N t:Nat}{g:G}(h:Tbl rows n m)(ht:tabOf N g t rows){st s:Int}(h0:0<=st)(h1:st<n)(h2:0<=s)(h3:s<m):∃q,pIx (.ref t) (.int st) g=.ok (.ref q) g/\pIx (.ref q) (.int s) g=.ok (enc (en rows st s)) g:=by
 obtain⟨r,e1,e2,_⟩:=h.at' h0 h1 h2 h3
 obtain⟨_,ds,d1,d2,d3⟩:=ht
 have hl:=(Uf.mp e1).1
 have e0:ds[st.toNat]?=some ds[st.toNat]:=UG (by omega)
 obtain⟨q,hq,_,_,gq⟩:=d3 _ _ _ e0 e1
 rw[hq]at e0
 exact⟨q,Qab d1 h0 e0,Qab gq h2 e2⟩
noncomputable def ste(rows:List (List D))(st:Int)(b:Bool)(L R:List Tk)(s:Int):Option D:=(en rows st s).map λe=>gone b (L.map tkD) (R.map tkD) e.2.2 e.2.1 (tkD (.one e.1))
noncomputable def QfI(rows:List (List D))(st:Int)(b:Bool)(L R:List Tk):Option D:=match ahT b L R with
 |none=>ste rows st b L R 0
 |some (.one s)=>ste rows st b L R s
 |some (.many _ _)=>none
noncomputable def Pr(o:Option D)(g:G):Res D:=match o with
 |some d=>.ok d g
 |none=>.raise (8,none) g
noncomputable def Lw(o:Option D)(g:G):Res D:=.ok (o.getD .non) g
@[simp] theorem Qor{e:En}:isNon (enc e)=e.isNone:=by cases e <;> rfl
section
variable{rows:List (List D)}{n m:Nat}{st:Int}{b:Bool}{L R:List Tk}{g:G}
theorem Qeg{M:Nat}(hM:g[M]?=some (JF rows))(hT:Tbl rows n m)(h0:0<=st)(h1:st<n)(hL:∀t∈L,TkL m t)(hR:∀t∈R,TkL m t)(hz:L.length+R.length<=1000):
  Yn [.ref M,shD st b (L.map tkD) (R.map tkD)] g=Pr (QfI rows st b L R) g:=by
 have hA:∀i σ,σ[i]?=some (some (.ref M))->Qa9 [11] "table" (mVar i) σ g=.ok (.tup (rows.map .tup)) g:=λi σ h=>JH h hM
 have e1:=Qa4 (st:=st) (b:=b) (L:=L.map tkD) (R:=R.map tkD) (g:=g)
 rw[QcR]at e1
 have G:=λs w t=>QiI (st:=st) (s:=s) (b:=b) (w:=w) (L:=L.map tkD) (R:=R.map tkD) (t:=t) (g:=g) (by simp;omega)
 have key:∀s:Int,0<=s->s<m->∃r,atD (rows.map D.tup) st=some (.tup r)/\atD r s=some (enc (en rows st s)):=λs h2 h3=>hT.prog h0 h1 h2 h3
 simp only[shD]at e1 G ⊢
 unfold QfI ste
 cases ha:ahT b L R with
 |none =>
  obtain⟨r,k1,k2⟩:=key 0 (by omega) (by have:=hT.m0;omega)
  rw[ha]at e1
  cases he:en rows st 0 <;> rw[he]at k2 <;> simp[Yn,Ji,e1,isNon,hA,k1,k2,enc,Pr,G,tkD]
 |some t =>
  rw[ha]at e1
  have ht:=Qax ha hL hR
  cases t with
  |many w k=>simp[Yn,Ji,e1,isNon,Pr,tkD]
  |one s =>
   obtain⟨r,k1,k2⟩:=key s ht.1 ht.2
   cases he:en rows st s <;> rw[he]at k2 <;> simp[Yn,Ji,e1,isNon,hA,k1,k2,enc,Pr,G,tkD,he]
theorem Qhd{N t:Nat}(ht:tabOf N g t rows)(hT:Tbl rows n m)(h0:0<=st)(h1:st<n)(hL:∀t∈L,TkL m t)(hR:∀t∈R,TkL m t)(hz:L.length+R.length<=1000):
  Yg [.ref t,shD st b (L.map tkD) (R.map tkD)] g=Lw (QfI rows st b L R) g:=by
 have e1:=Qef (st:=st) (b:=b) (L:=L.map tkD) (R:=R.map tkD) (g:=g)
 rw[QcR]at e1
 have a1:∀t,pAdd (.tup (rsL b (L.map tkD))) (.tup [t]) g=.ok (.tup (rsL b (L.map tkD)++[t])) g:=λt=>Qaw (by unfold rsL;split <;> simp <;> omega)
 have a2:∀t,pAdd (.tup [t]) (.tup (rsR b (R.map tkD))) g=.ok (.tup (t::rsR b (R.map tkD))) g:=λt=>Qaw (by unfold rsR;split <;> simp <;> omega)
 simp only[shD]at e1 ⊢
 unfold QfI ste
 have key:=λ(s:Int)(h2:0<=s)(h3:s<m)=>hT.law ht h0 h1 h2 h3
 have fin:∀s:Int,0<=s->s<m->(ahT b L R=none/\s=0\/ahT b L R=some (.one s))->Yg [.ref t,.tup [.int st,.str (fc b),.tup (L.map tkD),.tup (R.map tkD)]] g=Lw ((en rows st s).map λe=>gone b (L.map tkD) (R.map tkD) e.2.2 e.2.1 (tkD (.one e.1))) g:=λs h2 h3 ha=>by
  obtain⟨q,k1,k2⟩:=key s h2 h3
  rcases ha with⟨ha,rfl⟩|ha <;> rw[ha]at e1 <;> cases he:en rows st _ with
  |none=>rw[he]at k2;simp[Yg,JV,e1,isNon,k1,k2,enc,Lw,tkD]
  |some e=>rw[he]at k2;obtain⟨x,w,y⟩:=e;cases w <;> simp[Yg,JV,e1,isNon,k1,k2,enc,Lw,tkD,a1,a2,gone,shD]
 cases ha:ahT b L R with
 |none=>exact fin 0 (by omega) (by have:=hT.m0;omega) (.inl ⟨ha,rfl⟩)
 |some t =>
  have ht:=Qax ha hL hR
  cases t with
  |many w k=>rw[ha]at e1;simp[Yg,JV,e1,isNon,Lw,tkD]
  |one s=>exact fin s ht.1 ht.2 (.inr ha)
end
noncomputable def ones(w:List Int):List D:=w.map λs=>tkD (.one s)
theorem QcS{it:ME}{σ:S3}{g:G}{w:List Int}(h:it σ g=.ok (.tup (w.map .int)) g)(hz:w.length<=1000):mOp1 QZ (Yc (QX it) 1 [] (gSet 0) ZX (mOpA pTup (Qa (mLit (.str "one")) (Qa (mVar 0) mNil)))) σ g=.ok (.tup (ones w)) (g++[.lst (ones w)]):=by
 obtain⟨xs,σ',g3,c1,c2,c3,_⟩:=Yy (src:=⟨λ_ i=>some (w.map D.int)[i]?,(w.map D.int).length⟩) (t:=gSet 0) (c:=ZX) (e:=mOpA pTup (Qa (mLit (.str "one")) (Qa (mVar 0) mNil))) (n:=w.length)
  (λi σ' g4 acc=>acc=(ones w).take i/\g4=g/\∃u,σ'=[u]) (λi σ' g4 acc hi hQ=>by
   obtain⟨q1,q2,u,q3⟩:=hQ
   subst q2 q3
   refine⟨.int w[i],[some (.int w[i])],g4,by simp[hi],rfl,.inl ⟨tkD (.one w[i]),g4,rfl,rfl,?_,rfl,_,rfl⟩⟩
   rw[q1,UT (by unfold ones;simpa using hi)]
   simp[ones]) (λσ g1 acc _=>by simp) ((w.map D.int).length+1) 0 [none] g [] (by simp) (by omega) ⟨rfl,rfl,none,rfl⟩
 subst c3
 rw[T3 (by simp[ones])]at c2
 subst c2
 refine Z3 (Qbg (n:=1) (cap:=[]) (σ0:=[none]) (g1:=g3) (src:=⟨λ_ i=>some (w.map D.int)[i]?,(w.map D.int).length⟩) (by unfold QX;rw[h];rfl) (by show(w.map D.int).length<=SZ;rw[Ud];exact UU (Qhc hz)) rfl c1) ?_
 unfold QZ;dsimp only;rw[Qo]
theorem QdF{w:List Int}{g:G}(hz:w.length<=1000):Qbw [.tup (w.map .int)] g=.ok (.tup (ones w)) (g++[.lst (ones w)]):=ZR rfl (Yz (QcS (it:=mVar 0) (σ:=[some (.tup (w.map .int))]) rfl hz))
noncomputable def QfJ(st:Int)(b:Bool)(L R:List Tk):Option D:=match ahT b L R with
 |some (.many w k)=>if k<1 then none else some (if b then shD st b (L.map tkD) (ones w++[tkD (.many w (k-1))]++(R.map tkD).tail) else shD st b ((L.map tkD).dropLast++([tkD (.many w (k-1))]++ones w)) (R.map tkD))
 |_=>none
section
variable{n m:Nat}{st:Int}{b:Bool}{L R:List Tk}{g:G}
theorem QbF:Ym [shD st b (L.map tkD) (R.map tkD)] g=(match ahT b L R with|some (.many w k)=>.ok (tkD (.many w k)) g|_=>.raise (8,none) g):=by
 have e1:=Qa4 (st:=st) (b:=b) (L:=L.map tkD) (R:=R.map tkD) (g:=g)
 rw[QcR]at e1
 cases ha:ahT b L R with
 |none=>rw[ha]at e1;simp[Ym,Qap,e1,isNon]
 |some t=>rw[ha]at e1;cases t <;> simp[Ym,Qap,e1,isNon,tkD]
theorem Qeh(hL:∀t∈L,TkL m t)(hR:∀t∈R,TkL m t)(hz:L.length+R.length<=1000):
  ∃g',Keeps [] g g'/\ZI [shD st b (L.map tkD) (R.map tkD)] g=Pr (QfJ st b L R) g':=by
 have e1:=QbF (st:=st) (b:=b) (L:=L) (R:=R) (g:=g)
 unfold QfJ
 cases ha:ahT b L R with
 |none=>rw[ha]at e1;exact⟨g,.refl,by simp[ZI,Yp,e1,Pr]⟩
 |some t =>
  have ht:=Qax ha hL hR
  rw[ha]at e1
  cases t with
  |one s=>exact⟨g,.refl,by simp[ZI,Yp,e1,Pr]⟩
  |many w k =>
   by_cases hk:k<1
   ·exact⟨g,.refl,by simp[ZI,Yp,e1,Pr,tkD,hk]⟩
   ·have e2:=QdF (w:=w) (g:=g) (by have:=ht.2.2.2.1;omega)
    have z:(ones w).length<=20:=by unfold ones;rw[Ud];exact ht.2.2.2.1
    refine⟨g++[.lst (ones w)],.push _,?_⟩
    have e3:=λX=>QcQ (st:=st) (b:=b) (L:=L.map tkD) (R:=R.map tkD) (X:=X) (g:=g++[.lst (ones w)])
    simp only[shD]at e1 e3 ⊢
    cases b
    ·simp[ZI,Yp,e1,Pr,tkD,hk,e2,Qaw (g:=g++[.lst (ones w)]) (xs:=[.tup [.str "many",.tup (w.map .int),.int (k-1)]]) (ys:=ones w) (by simp;omega),e3 (.tup [.str "many",.tup (w.map .int),.int (k-1)]::ones w) (by simp;omega)]
    ·simp[ZI,Yp,e1,Pr,tkD,hk,e2,Qaw (g:=g++[.lst (ones w)]) (ys:=[.tup [.str "many",.tup (w.map .int),.int (k-1)]]) (xs:=ones w) (by simp;omega),e3 (ones w++[.tup [.str "many",.tup (w.map .int),.int (k-1)]]) (by simp;omega)]
theorem QiJ(hL:∀t∈L,TkL m t)(hR:∀t∈R,TkL m t)(hz:L.length+R.length<=1000):
  ∃g',Keeps [] g g'/\YB [shD st b (L.map tkD) (R.map tkD)] g=Lw (QfJ st b L R) g':=by
 have e1:=Qef (st:=st) (b:=b) (L:=L.map tkD) (R:=R.map tkD) (g:=g)
 rw[QcR]at e1
 simp only[shD]at e1 ⊢
 unfold QfJ
 cases ha:ahT b L R with
 |none=>rw[ha]at e1;exact⟨g,.refl,by simp[YB,JD,e1,Lw,isNon]⟩
 |some t =>
  have ht:=Qax ha hL hR
  rw[ha]at e1
  cases t with
  |one s=>exact⟨g,.refl,by simp[YB,JD,e1,Lw,tkD,isNon]⟩
  |many w k =>
   by_cases hk:k<1
   ·exact⟨g,.refl,by simp[YB,JD,e1,Lw,tkD,hk,isNon]⟩
   ·have e2:=λσ (h:mOp2 pIx (mVar 5) (mLit (.int 1)) σ g=.ok (.tup (w.map .int)) g)=>QcS (g:=g) h (by have:=ht.2.2.2.1;omega)
    have z:(ones w).length<=20:=by unfold ones;rw[Ud];exact ht.2.2.2.1
    refine⟨g++[.lst (ones w)],.push _,?_⟩
    generalize g++[GO.lst (ones w)]=g2 at e2
    generalize hone:mOp1 QZ (Yc (QX (mOp2 pIx (mVar 5) (mLit (.int 1)))) 1 [] (gSet 0) ZX (mOpA pTup (Qa (mLit (.str "one")) (Qa (mVar 0) mNil))))=X at e2
    unfold YB JD
    rw[hone]
    have A:=λ(xs ys:List D) h=>Qaw (g:=g2) (xs:=xs) (ys:=ys) h
    cases b
    ·simp[e1,Lw,tkD,hk,e2,isNon,shD,rsL,rsR,A (L.map tkD).dropLast [.tup [.str "many",.tup (w.map .int),.int (k-1)]] (by simp;omega),A ((L.map tkD).dropLast++[.tup [.str "many",.tup (w.map .int),.int (k-1)]]) (ones w) (by simp;omega)]
    ·simp[e1,Lw,tkD,hk,e2,isNon,shD,rsL,rsR,A (ones w) [.tup [.str "many",.tup (w.map .int),.int (k-1)]] (by simp;omega),A (ones w++[.tup [.str "many",.tup (w.map .int),.int (k-1)]]) (R.map tkD).tail (by simp;omega)]
end
theorem Keeps.new{g0 g:G}{l:Nat}{o:GO}(k:Keeps [] g0 g)(h:g0.length<=l):Keeps [] g0 (g.set l o):=⟨by rw[UO];exact k.len,λi u _ e=>by
 have:=Yq e
 rw[Uq (by omega)];exact k.at' _ _ (by simp) e⟩
noncomputable def pn(p:Int)(w:Bool):Int:=if w then p+1 else p-1
noncomputable def goW(rows:List (List D)):Nat->List Int->Int->Int->Option (List Int×Int×Bool)
 |0,_,_,_=>none
 |f+1,c,p,cur=>match en rows cur (c[p.toNat]?.getD 0) with
  |none=>none
  |some (a,w,s)=>if 0<=pn p w/\pn p w<c.length then goW rows f (c.set p.toNat a) (pn p w) s else some (c.set p.toNat a,s,w)
noncomputable def ovW(st:Int)(b:Bool):Option (List Int×Int×Bool)->Option (List Int)
 |some (c,s,w)=>if (w == b && s == st)=true then some c else none
 |none=>none
noncomputable def iD:Option (List Int)->D
 |some c=>.tup (c.map .int)
 |none=>.non
noncomputable def ov0(b:Bool)(w:List Int):Int:=if b then 0 else (w.length:Int) - 1
theorem ixI{g:G}{l:Nat}{c:List Int}{p:Int}(hl:g[l]?=some (.lst (c.map .int)))(h0:0<=p)(h1:p<c.length):pIx (.ref l) (.int p) g=.ok (.int (c[p.toNat]?.getD 0)) g:=Qab hl h0 (by
 rw[UB,UG (show p.toNat<c.length by omega)];rfl)
theorem setI{g:G}{l:Nat}{c:List Int}{p a:Int}{σ:S3}{o i v:ME}(hl:g[l]?=some (.lst (c.map .int)))(h0:0<=p)(h1:p<c.length)(hv:v σ g=.ok (.int a) g)(ho:o σ g=.ok (.ref l) g)(hi:i σ g=.ok (.int p) g):Jf o i v σ g=.nx σ (g.set l (.lst ((c.set p.toNat a).map .int))):=by
 unfold Jf
 rw[hv];dsimp only
 rw[ho];dsimp only
 rw[hi];dsimp only
 rw[hl];dsimp only
 unfold ixD
 rw[Uh h0,Uh (by rw[Ud];exact h1)]
 dsimp only
 rw[List.map_set]
section
variable{rows:List (List D)}{n m:Nat}{st:Int}{b:Bool}{g0:G}
theorem QiK{m:Nat}{c:List Int}{p:Nat}{a:Int}(h:∀x∈c,0<=x/\x<(m:Int))(ha:0<=a/\a<(m:Int)):∀x∈c.set p a,0<=x/\x<(m:Int):=λx hx=>by
 rcases RJ hx with z|z
 ·exact h x z
 ·rw[z];exact ha
theorem QkH{m:Nat}{c:List Int}{p:Int}(h:∀x∈c,0<=x/\x<(m:Int))(h0:0<=p)(h1:p<c.length):0<=c[p.toNat]?.getD 0/\c[p.toNat]?.getD 0<(m:Int):=by
 have e:c[p.toNat]?=some c[p.toNat]:=UG (by omega)
 rw[e];exact h _ (UR _)
theorem QiL{M l:Nat}{W:Option D}(hM:g0[M]?=some (JF rows))(hT:Tbl rows n m)(hl0:g0.length<=l):∀(f i:Nat)(c:List Int)(p cur:Int)(x7 x8:Option D)(g:G),i+f=1000->Keeps [] g0 g->g[l]?=some (.lst (c.map .int))->(∀x∈c,0<=x/\x<(m:Int))->0<=cur->cur<n->0<=p->p<c.length ->
  ∃g',Keeps [] g0 g'/\(forL (Zw 0 1000) (gSet 7) QT (f+1) i [some (.ref M),some (.int st),some (.str (fc b)),W,some (.ref l),some (.int p),some (.int cur),x7,x8] g=.rt (iD (ovW st b (goW rows f c p cur))) g' \/
   (goW rows f c p cur=none/\∃σ',forL (Zw 0 1000) (gSet 7) QT (f+1) i [some (.ref M),some (.int st),some (.str (fc b)),W,some (.ref l),some (.int p),some (.int cur),x7,x8] g=.nx σ' g'))
 |0,i,c,p,cur,x7,x8,g,hf,k,gl,hc,h0,h1,h2,h3=>by
  have:¬i<1000:=by omega
  exact⟨g,k,.inr ⟨rfl,_,by unfold forL;simp only[Zw,this,Rr];rfl⟩⟩
 |f+1,i,c,p,cur,x7,x8,g,hf,k,gl,hc,h0,h1,h2,h3=>by
  have hi:i<1000:=by omega
  obtain⟨y0,y1⟩:=QkH hc h2 h3
  obtain⟨r,k1,k2⟩:=hT.prog h0 h1 y0 y1
  obtain⟨_,_,_,bd⟩:=hT.at' h0 h1 y0 y1
  have k3:=ixI gl h2 h3
  unfold forL goW
  simp only[Zw,hi,T8]
  generalize c[p.toNat]?.getD 0=y at k2 k3 bd
  have hA:∀i σ,σ[i]?=some (some (.ref M))->Qa9 [11] "table" (mVar i) σ g=.ok (.tup (rows.map .tup)) g:=λi σ h=>JH h (k.at' _ _ (by simp) hM)
  cases he:en rows cur y with
  |none =>
   rw[he]at k2
   exact⟨g,k,.inl (by simp[gSet,QT,hA,k1,k2,k3,enc,isNon,ovW,iD])⟩
  |some e =>
   obtain⟨a,w,s⟩:=e
   obtain⟨ba,bs⟩:=bd _ _ _ he
   rw[he]at k2
   have hS:∀σ,σ[4]?=some (some (.ref l))->σ[5]?=some (some (.int p))->σ[8]?=some (some (.tup [.int a,.str (fc w),.int s]))->Jf (mVar 4) (mVar 5) (mOp2 pIx (mVar 8) (mLit (.int 0))) σ g=.nx σ (g.set l (.lst ((c.set p.toNat a).map .int))):=λσ q1 q2 q3=>setI gl h2 h3 (by simp[q3]) (by simp[q1]) (by simp[q2])
   have kn:Keeps [] g0 (g.set l (.lst ((c.set p.toNat a).map .int))):=k.new hl0
   have gn:(g.set l (.lst ((c.set p.toNat a).map .int)))[l]?=some (.lst ((c.set p.toNat a).map .int)):=Z4 gl
   generalize g.set l (.lst ((c.set p.toNat a).map .int))=g2 at hS kn gn
   have hlen:pLen (.ref l) g2=.ok (.int c.length) g2:=by simp[pLen,gn]
   have htup:QZ (.ref l) g2=.ok (.tup ((c.set p.toNat a).map .int)) g2:=by simp[QZ,gn]
   have hpw:(if w then p+1 else p-1)=pn p w:=rfl
   have hb:=Y5 (.int (pn p w)) c.length g2 .int rfl
   have key:∀R,(if 0<=pn p w/\pn p w<c.length then Out.nx [some (.ref M),some (.int st),some (.str (fc b)),W,some (.ref l),some (.int (pn p w)),some (.int s),some (.int (0+i)),some (.tup [.int a,.str (fc w),.int s])] g2 else .rt (iD (ovW st b (some (c.set p.toNat a,s,w)))) g2)=R->QT [some (.ref M),some (.int st),some (.str (fc b)),W,some (.ref l),some (.int p),some (.int cur),some (.int (0+i)),x8] g=R:=λR hR=>by
    subst hR
    by_cases hin:0<=pn p w/\pn p w<c.length
    ·rw[show JE (.int (pn p w)) c.length=true from Uy hin]at hb
     cases w <;> simp[pn]at hb hin <;> simp[QT,hA,k1,k2,k3,enc,isNon,hS,hlen,hb,pn,hin]
    ·rw[show JE (.int (pn p w)) c.length=false from Uo hin]at hb
     rw[Um hin]
     cases w <;> cases b <;> by_cases hq:s=st <;> simp[pn]at hb hin hq <;> simp[QT,hA,k1,k2,k3,enc,isNon,hS,hlen,hb,pn,htup,ovW,iD,hq]
   dsimp only[gSet]
   by_cases hin:0<=pn p w/\pn p w<c.length
   ·have hb1:=key _ rfl
    rw[Uh hin]at hb1 ⊢
    obtain⟨g',q1,q2⟩:=QiL hM hT hl0 f (i+1) (c.set p.toNat a) (pn p w) s (some (.int (0+i))) (some (.tup [.int a,.str (fc w),.int s])) g2 (by omega) kn gn (QiK hc ba) bs.1 bs.2 hin.1 (by rw[UO];exact hin.2)
    refine⟨g',q1,?_⟩
    simp only[List.set_cons_succ,List.set_cons_zero]
    rw[hb1]
    exact q2
   ·have hb1:=key _ rfl
    rw[Um hin]at hb1 ⊢
    refine⟨g2,kn,.inl ?_⟩
    simp only[List.set_cons_succ,List.set_cons_zero]
    rw[hb1]
theorem Qde{M:Nat}{w:List Int}(hM:g0[M]?=some (JF rows))(hT:Tbl rows n m)(h0:0<=st)(h1:st<n)(hw:w≠[])(hc:∀x∈w,0<=x/\x<(m:Int)):
  ∃g',Keeps [] g0 g'/\JS [.ref M,.int st,.str (fc b),.tup (w.map .int)] g0=.ok (iD (ovW st b (goW rows 1000 w (ov0 b w) st))) g':=by
 have hl:0<w.length:=Ru.mpr hw
 have kn:Keeps [] g0 (g0++[.lst (w.map .int)]):=.push _
 obtain⟨g',q1,q2⟩:=QiL (st:=st) (b:=b) (W:=some (.tup (w.map .int))) hM hT (Ul _) 1000 0 w (ov0 b w) st none none _ rfl kn (Qo _) hc h0 h1 (by unfold ov0;split <;> omega) (by unfold ov0;split <;> omega)
 have hlen:pLen (.ref g0.length) (g0++[.lst (w.map .int)])=.ok (.int w.length) (g0++[.lst (w.map .int)]):=by unfold pLen;dsimp only;rw[Qo];simp
 have hfor:mFor (Zi (mLit (.int 1000))) (gSet 7) QT [some (.ref M),some (.int st),some (.str (fc b)),some (.tup (w.map .int)),some (.ref g0.length),some (.int (ov0 b w)),some (.int st),none,none] (g0++[.lst (w.map .int)])=forL (Zw 0 1000) (gSet 7) QT 1001 0 [some (.ref M),some (.int st),some (.str (fc b)),some (.tup (w.map .int)),some (.ref g0.length),some (.int (ov0 b w)),some (.int st),none,none] (g0++[.lst (w.map .int)]):=QbD (JG (n:=1000) rfl (QdC (by omega)))
 have hpre:∀R,mSeq (mFor (Zi (mLit (.int 1000))) (gSet 7) QT) (mRet (mLit .non)) [some (.ref M),some (.int st),some (.str (fc b)),some (.tup (w.map .int)),some (.ref g0.length),some (.int (ov0 b w)),some (.int st),none,none] (g0++[.lst (w.map .int)])=R->Qbx [some (.ref M),some (.int st),some (.str (fc b)),some (.tup (w.map .int)),none,none,none,none,none] g0=R:=λR hR=>by
  refine Ql _ (g0++[.lst (w.map .int)]) rfl (Ql [some (.ref M),some (.int st),some (.str (fc b)),some (.tup (w.map .int)),some (.ref g0.length),some (.int (ov0 b w)),none,none,none] (g0++[.lst (w.map .int)]) ?_ (Ql _ (g0++[.lst (w.map .int)]) rfl hR))
  cases b <;> simp[ov0,hlen]
 refine⟨g',q1,ZR rfl (hpre _ ?_)⟩
 rcases q2 with q2|⟨q3,σ',q2⟩
 ·exact Y8 (hfor.trans q2)
 ·rw[q3];exact Ql σ' g' (hfor.trans q2) rfl
noncomputable def QfK(rows:List (List D))(st:Int)(b:Bool)(L R:List Tk):Option D:=match ahT b L R with
 |some (.many w k)=>(ovW st b (goW rows 1000 w (ov0 b w) st)).map λc=>gone b (L.map tkD) (R.map tkD) st b (tkD (.many c k))
 |_=>none
theorem Qei{M:Nat}{L R:List Tk}(hM:g0[M]?=some (JF rows))(hT:Tbl rows n m)(h0:0<=st)(h1:st<n)(hL:∀t∈L,TkL m t)(hR:∀t∈R,TkL m t)(hz:L.length+R.length<=1000):
  ∃g',Keeps [] g0 g'/\Yo [.ref M,shD st b (L.map tkD) (R.map tkD)] g0=Pr (QfK rows st b L R) g':=by
 have e1:=QbF (st:=st) (b:=b) (L:=L) (R:=R) (g:=g0)
 unfold QfK
 cases ha:ahT b L R with
 |none=>rw[ha]at e1;exact⟨g0,.refl,by simp[Yo,Jj,e1,Pr]⟩
 |some t =>
  have ht:=Qax ha hL hR
  rw[ha]at e1
  cases t with
  |one s=>exact⟨g0,.refl,by simp[Yo,Jj,e1,Pr]⟩
  |many w k =>
   obtain⟨g',q1,q2⟩:=Qde (b:=b) hM hT h0 h1 ht.1 ht.2.1
   have G:=λt=>QiI (st:=st) (s:=st) (b:=b) (w:=b) (L:=L.map tkD) (R:=R.map tkD) (t:=t) (g:=g') (by simp;omega)
   simp only[shD]at e1 G ⊢
   refine⟨g',q1,?_⟩
   cases ho:ovW st b (goW rows 1000 w (ov0 b w) st) <;> rw[ho]at q2 <;> simp[iD]at q2 <;> simp[Yo,Jj,e1,Pr,tkD,q2,isNon,G]
end
section
variable{rows:List (List D)}{n m:Nat}{st:Int}{b:Bool}{g0:G}
theorem QiM{l:Nat}{c:List Int}{p:Int}{g:G}{x0 x1 x2 x3 x4 x5 x6 x9 x10 x11 x12:Option D}(gl:g[l]?=some (.lst (c.map .int))):QbN (Qj (mOp2 pLe (mLit (.int 0)) (mVar 8))) (Qj (mOp2 pLt (mVar 8) (mOp1 pLen (mVar 7)))) [x0,x1,x2,x3,x4,x5,x6,some (.ref l),some (.int p),x9,x10,x11,x12] g=.ok (decide (0<=p/\p<c.length)) g:=by
 have hlen:pLen (.ref l) g=.ok (.int c.length) g:=by simp[pLen,gl]
 by_cases h:0<=p <;> simp[h,hlen]
theorem QiN{N t l:Nat}{x1 x2 x3 x4 x5 x6 x12:Option D}(ht:tabOf N g0 t rows)(hT:Tbl rows n m)(hl0:g0.length<=l):∀(f:Nat)(k:Int)(c:List Int)(p cur:Int)(x11:Option D)(g:G),k+f=1000->Keeps [] g0 g->g[l]?=some (.lst (c.map .int))->(∀x∈c,0<=x/\x<(m:Int))->0<=cur->cur<n->0<=p->p<c.length ->
  ∃F g',Keeps [] g0 g'/\(match goW rows f c p cur with
   |none=>ZH (QbN (Qj (mOp2 pLe (mLit (.int 0)) (mVar 8))) (Qj (mOp2 pLt (mVar 8) (mOp1 pLen (mVar 7))))) Yh F [some (.ref t),x1,x2,x3,x4,x5,x6,some (.ref l),some (.int p),some (.int cur),some (.int k),x11,x12] g=.rt .non g'
   |some (c',s,v)=>g'[l]?=some (.lst (c'.map .int))/\∃p' k' y11,ZH (QbN (Qj (mOp2 pLe (mLit (.int 0)) (mVar 8))) (Qj (mOp2 pLt (mVar 8) (mOp1 pLen (mVar 7))))) Yh F [some (.ref t),x1,x2,x3,x4,x5,x6,some (.ref l),some (.int p),some (.int cur),some (.int k),x11,x12] g=.nx [some (.ref t),x1,x2,x3,x4,x5,x6,some (.ref l),some (.int p'),some (.int s),k',y11,x12] g'/\decide (p'<0) = !v)
 |f,k,c,p,cur,x11,g,hf,kp,gl,hc,h0,h1,h2,h3=>by
  obtain⟨y0,y1⟩:=QkH hc h2 h3
  obtain⟨q,k1,k2⟩:=hT.law (ht.mono kp (by simp)) h0 h1 y0 y1
  obtain⟨_,_,_,bd⟩:=hT.at' h0 h1 y0 y1
  have k3:=ixI gl h2 h3
  have hcond:=QiM (p:=p) (x0:=some (.ref t)) (x1:=x1) (x2:=x2) (x3:=x3) (x4:=x4) (x5:=x5) (x6:=x6) (x9:=some (.int cur)) (x10:=some (.int k)) (x11:=x11) (x12:=x12) gl
  rw[Uy ⟨h2,h3⟩]at hcond
  match f,hf with
  |0,hf =>
   have:k=1000:=by omega
   subst this
   refine⟨1,g,kp,?_⟩
   unfold goW ZH
   rw[hcond]
   dsimp only
   cases he:en rows cur (c[p.toNat]?.getD 0) <;> rw[he]at k2 <;> simp[Yh,k1,k2,k3,enc,isNon]
  |f+1,hf =>
   have hk:¬(k=1000):=by omega
   unfold goW
   generalize c[p.toNat]?.getD 0=y at k2 k3 bd
   cases he:en rows cur y with
   |none =>
    rw[he]at k2
    refine⟨1,g,kp,?_⟩
    unfold ZH
    rw[hcond]
    simp[Yh,k1,k2,k3,enc,isNon]
   |some e =>
    obtain⟨a,w,s⟩:=e
    obtain⟨ba,bs⟩:=bd _ _ _ he
    rw[he]at k2
    have hS:∀σ,σ[7]?=some (some (.ref l))->σ[8]?=some (some (.int p))->σ[11]?=some (some (.tup [.int a,.str (fc w),.int s]))->Jf (mVar 7) (mVar 8) (mOp2 pIx (mVar 11) (mLit (.int 0))) σ g=.nx σ (g.set l (.lst ((c.set p.toNat a).map .int))):=λσ q1 q2 q3=>setI gl h2 h3 (by simp[q3]) (by simp[q1]) (by simp[q2])
    have kn:Keeps [] g0 (g.set l (.lst ((c.set p.toNat a).map .int))):=kp.new hl0
    have gn:(g.set l (.lst ((c.set p.toNat a).map .int)))[l]?=some (.lst ((c.set p.toNat a).map .int)):=Z4 gl
    generalize g.set l (.lst ((c.set p.toNat a).map .int))=g2 at hS kn gn
    have kz:Keeps [] g2 (g2++[.lst [.int (-1),.int 1]]):=.push _
    have key:Yh [some (.ref t),x1,x2,x3,x4,x5,x6,some (.ref l),some (.int p),some (.int cur),some (.int k),x11,x12] g=.nx [some (.ref t),x1,x2,x3,x4,x5,x6,some (.ref l),some (.int (pn p w)),some (.int s),some (.int (k+1)),some (.tup [.int a,.str (fc w),.int s]),x12] (g2++[.lst [.int (-1),.int 1]]):=by
     cases w <;> simp[Yh,k1,k2,k3,enc,isNon,hS,hk,pn]
     omega
    have gn3:=kz.at' _ _ (by simp) gn
    have kn3:=kn.trans kz
    generalize g2++[GO.lst [.int (-1),.int 1]]=g3 at key gn3 kn3
    by_cases hin:0<=pn p w/\pn p w<c.length
    ·obtain⟨F,g',r1,r2⟩:=QiN ht hT hl0 f (k+1) (c.set p.toNat a) (pn p w) s (some (.tup [.int a,.str (fc w),.int s])) g3 (by omega) kn3 gn3 (QiK hc ba) bs.1 bs.2 hin.1 (by rw[UO];exact hin.2)
     refine⟨F+1,g',r1,?_⟩
     dsimp only
     rw[Uh hin]
     unfold ZH
     rw[hcond]
     dsimp only
     rw[key]
     exact r2
    ·have hcond3:=QiM (p:=pn p w) (x0:=some (.ref t)) (x1:=x1) (x2:=x2) (x3:=x3) (x4:=x4) (x5:=x5) (x6:=x6) (x9:=some (.int s)) (x10:=some (.int (k+1))) (x11:=some (.tup [.int a,.str (fc w),.int s])) (x12:=x12) gn3
     rw[UO,Uo hin]at hcond3
     refine⟨2,g3,kn3,?_⟩
     dsimp only
     rw[Um hin]
     refine⟨gn3,pn p w,some (.int (k+1)),some (.tup [.int a,.str (fc w),.int s]),?_,?_⟩
     ·unfold ZH
      rw[hcond]
      dsimp only
      rw[key]
      dsimp only
      unfold ZH
      rw[hcond3]
     ·cases w <;> simp[pn]at hin ⊢ <;> omega
 termination_by f=>f
end
section
variable{rows:List (List D)}{n m:Nat}{st:Int}{b:Bool}{g0:G}
theorem QlN{N t:Nat}{L R:List Tk}(ht:tabOf N g0 t rows)(hT:Tbl rows n m)(h0:0<=st)(h1:st<n)(hL:∀t∈L,TkL m t)(hR:∀t∈R,TkL m t)(hz:L.length+R.length<=1000):
  ∃g',Keeps [] g0 g'/\Qbz [.ref t,shD st b (L.map tkD) (R.map tkD)] g0=Lw (QfK rows st b L R) g':=by
 have e1:=Qef (st:=st) (b:=b) (L:=L.map tkD) (R:=R.map tkD) (g:=g0)
 rw[QcR]at e1
 simp only[shD]at e1 ⊢
 unfold QfK
 cases ha:ahT b L R with
 |none=>rw[ha]at e1;exact⟨g0,.refl,by simp[Qbz,Qco,e1,Lw,isNon]⟩
 |some t' =>
  have ht':=Qax ha hL hR
  rw[ha]at e1
  cases t' with
  |one s=>exact⟨g0,.refl,by simp[Qbz,Qco,e1,Lw,tkD,isNon]⟩
  |many w k =>
   have hl:0<w.length:=Ru.mpr ht'.1
   have kn:Keeps [] g0 (g0++[.lst (w.map .int)]):=.push _
   have gn:=Qo (g:=g0) (.lst (w.map .int))
   have hlen:pLen (.ref g0.length) (g0++[.lst (w.map .int)])=.ok (.int w.length) (g0++[.lst (w.map .int)]):=by unfold pLen;dsimp only;rw[gn];simp
   have k2:Keeps [] (g0++[.lst (w.map .int)]) (g0++[.lst (w.map .int)]++[.lst [.int 0,.int ((w.length:Int) - 1)]]):=.push _
   have gn2:=k2.at' _ _ (by simp) gn
   let σ:S3:=[some (.ref t),some (shD st b (L.map tkD) (R.map tkD)),some (.int st),some (.str (fc b)),some (.tup (rsL b (L.map tkD))),some (.tup (rsR b (R.map tkD))),some (tkD (.many w k)),some (.ref g0.length),some (.int (ov0 b w)),some (.int st),some (.int 0),none,none]
   obtain⟨F,g',r1,r2⟩:=QiN (x1:=some (shD st b (L.map tkD) (R.map tkD))) (x2:=some (.int st)) (x3:=some (.str (fc b))) (x4:=some (.tup (rsL b (L.map tkD)))) (x5:=some (.tup (rsR b (R.map tkD)))) (x6:=some (tkD (.many w k))) (x12:=none) ht hT (Ul _) 1000 0 w (ov0 b w) st none _ rfl (kn.trans k2) gn2 ht'.2.1 h0 h1 (by unfold ov0;split <;> omega) (by unfold ov0;split <;> omega)
   have s5:mAsg (gSet 8) (mOp2 pIx (mOpA newL (Qa (mLit (.int 0)) (Qa (mOp2 pSub (mOp1 pLen (mVar 7)) (mLit (.int 1))) mNil))) (mOp1 pInt (mOp2 pEq (mVar 3) (mLit (.str "l"))))) [some (.ref t),some (shD st b (L.map tkD) (R.map tkD)),some (.int st),some (.str (fc b)),some (.tup (rsL b (L.map tkD))),some (.tup (rsR b (R.map tkD))),some (tkD (.many w k)),some (.ref g0.length),none,none,none,none,none] (g0++[.lst (w.map .int)])=.nx [some (.ref t),some (shD st b (L.map tkD) (R.map tkD)),some (.int st),some (.str (fc b)),some (.tup (rsL b (L.map tkD))),some (.tup (rsR b (R.map tkD))),some (tkD (.many w k)),some (.ref g0.length),some (.int (ov0 b w)),none,none,none,none] (g0++[.lst (w.map .int)]++[.lst [.int 0,.int ((w.length:Int) - 1)]]):=by
    refine ZG (Qw (JK (Qx (g1:=g0++[.lst (w.map .int)]) rfl (Qx (Qw (Z3 (x:=.ref g0.length) rfl hlen) rfl rfl) rfl)) rfl) (y:=.int (if (!b)=true then 1 else 0)) (g2:=g0++[.lst (w.map .int)]++[.lst [.int 0,.int ((w.length:Int) - 1)]]) (by simp) ?_)
    generalize g0++[.lst (w.map .int)]=g1
    cases b <;> simp[ov0]
   have kk:=kn.trans k2
   generalize g0++[.lst (w.map .int)]++[.lst [.int 0,.int ((w.length:Int) - 1)]]=g2 at r2 s5 kk
   have hpre:∀W Q R9,mSeq W Q σ g2=R9->mSeq (mAsg (JO [gSet 2,gSet 3,gSet 4,gSet 5]) (mVar 1)) (mSeq (mAsg (JO [gSet 6,gSet 4,gSet 5]) (Qr Ya (Qa (mVar 1) mNil))) (mSeq (mIf (mOrT (Qj (mOp2 pIs (mVar 6) (mLit .non))) (Qj (mOp2 pEq (mOp2 pIx (mVar 6) (mLit (.int 0))) (mLit (.str "one"))))) (mRet (mLit .non)) QA) (mSeq (mAsg (gSet 7) (mOp1 Qcb (mOp2 pIx (mVar 6) (mLit (.int 1))))) (mSeq (mAsg (gSet 8) (mOp2 pIx (mOpA newL (Qa (mLit (.int 0)) (Qa (mOp2 pSub (mOp1 pLen (mVar 7)) (mLit (.int 1))) mNil))) (mOp1 pInt (mOp2 pEq (mVar 3) (mLit (.str "l")))))) (mSeq (mAsg (gSet 9) (mVar 2)) (mSeq (mAsg (gSet 10) (mLit (.int 0))) (mSeq W Q))))))) [some (.ref t),some (shD st b (L.map tkD) (R.map tkD)),none,none,none,none,none,none,none,none,none,none,none] g0=R9:=λW Q R9 hR=>by
    refine Ql [some (.ref t),some (shD st b (L.map tkD) (R.map tkD)),some (.int st),some (.str (fc b)),some (.tup (L.map tkD)),some (.tup (R.map tkD)),none,none,none,none,none,none,none] g0 rfl (Ql [some (.ref t),some (shD st b (L.map tkD) (R.map tkD)),some (.int st),some (.str (fc b)),some (.tup (rsL b (L.map tkD))),some (.tup (rsR b (R.map tkD))),some (tkD (.many w k)),none,none,none,none,none,none] g0 ?_ (Ql _ g0 (iff' g0 ?_ rfl) (Ql _ _ rfl (Ql _ _ s5 (Ql _ _ rfl (Ql _ _ rfl hR))))))
    ·simp[shD,e1]
    ·simp[tkD,isNon]
   refine⟨g',r1,ZR rfl ?_⟩
   unfold Qco
   refine hpre _ _ _ ?_
   dsimp only
   cases hgo:goW rows 1000 w (ov0 b w) st with
   |none =>
    rw[hgo]at r2
    exact Y8 (Qcs r2 (λz=>by cases z))
   |some e =>
    obtain⟨c,s,v⟩:=e
    rw[hgo]at r2
    obtain⟨gl,p',k',y11,r3,r4⟩:=r2
    refine Ql _ g' (Qcs r3 (λz=>by cases z)) ?_
    have htup:QZ (.ref g0.length) g'=.ok (.tup (c.map .int)) g':=by simp[QZ,gl]
    have a1:∀t,pAdd (.tup (rsL b (L.map tkD))) (.tup [t]) g'=.ok (.tup (rsL b (L.map tkD)++[t])) g':=λt=>Qaw (by unfold rsL;split <;> simp <;> omega)
    have a2:∀t,pAdd (.tup [t]) (.tup (rsR b (R.map tkD))) g'=.ok (.tup (t::rsR b (R.map tkD))) g':=λt=>Qaw (by unfold rsR;split <;> simp <;> omega)
    by_cases hs:s=st <;> cases b <;> cases v <;> simp[ovW,hs,r4,htup,a1,a2,tkD,gone,shD]
end
noncomputable def pl:Nat->D->Bool
 |0,_=>false
 |f+1,d=>match d with
  |.ref _=>false
  |.fl _=>false
  |.tup ds=>ds.all (pl f)
  |_=>true
theorem QkI{f:Nat}(ih:∀x y,pl f x=true->pl f y=true->∃β,∀g,eqN g f x y=some β):∀xs ys:List D,xs.all (pl f)=true->ys.all (pl f)=true->∃β,∀g,eqGs (eqN g f) xs ys=some β
 |[],[],_,_=>⟨true,λ_=>rfl⟩
 |[],_::_,_,_=>⟨false,λ_=>rfl⟩
 |_::_,[],_,_=>⟨false,λ_=>rfl⟩
 |x::xs,y::ys,hx,hy=>by
  simp only[TD,Uu]at hx hy
  obtain⟨a,ha⟩:=ih x y hx.1 hy.1
  obtain⟨c,hc⟩:=QkI ih xs ys hx.2 hy.2
  exact⟨a && c,λg=>by unfold eqGs;rw[ha g,hc g]⟩
theorem Qnp:∀(f:Nat)(x y:D),pl f x=true->pl f y=true->∃β,∀g,eqN g f x y=some β
 |0,_,_,h,_=>by cases h
 |f+1,x,y,hx,hy=>by
  cases x <;> cases y <;> first|exact absurd hx Uc|exact absurd hy Uc|exact⟨_,λ_=>rfl⟩|exact QkI (Qnp f) _ _ hx hy
noncomputable def eqB(x y:D):Bool:=(eqN [] 8 x y).getD false
theorem QlO{x y:D}(hx:pl 8 x=true)(hy:pl 8 y=true)(g:G):pNe x y g=.ok (.bl (!eqB x y)) g:=by
 obtain⟨β,h⟩:=Qnp 8 x y hx hy
 unfold pNe eqB;rw[h g,h []];rfl
theorem Qnq(f:Nat)(w:List Int):(w.map D.int).all (pl (f+1))=true:=Us.mpr λd hd=>by
 obtain⟨i,_,rfl⟩:=U9.mp hd;rfl
theorem QlP(f:Nat)(t:Tk):pl (f+3) (tkD t)=true:=by
 cases t with
 |one s=>rfl
 |many w k=>show(true && ((w.map D.int).all (pl (f+1)) && (true && true)))=true;rw[Qnq];rfl
theorem QkJ{f:Nat}{ds:List D}(h:∀d∈ds,∃t,d=tkD t):pl (f+4) (.tup ds)=true:=Us.mpr λd hd=>by
 obtain⟨t,rfl⟩:=h d hd;exact QlP _ t
theorem Qnr{T:List Tk}{lo hi:Option Int}:∀d∈cutD (T.map tkD) lo hi,∃t,d=tkD t:=λd hd=>by
 obtain⟨t,_,rfl⟩:=U9.mp (QaT d hd);exact⟨t,rfl⟩
theorem QlQ{w:List Int}:∀d∈ones w,∃t,d=tkD t:=λd hd=>by
 obtain⟨s,_,rfl⟩:=U9.mp hd;exact⟨_,rfl⟩
noncomputable def pq:Nat->D->Bool
 |0,_=>false
 |f+1,d=>match d with
  |.int _=>true
  |.str _=>true
  |.tup ds=>decide (ds.length<=100000) && ds.all (pq f)
  |_=>false
theorem Qns(g:G):∀(f:Nat)(d:D),pq f d=true->Sm g f d d
 |0,_,h=>absurd h Uc
 |f+1,d,h=>by
  cases d with
  |int i=>exact .int _ _
  |str s=>exact .str _ _
  |tup ds =>
   have h':(decide (ds.length<=100000) && ds.all (pq f))=true:=h
   rw[Uu,TJ,Us]at h'
   exact Qnj h'.1 λu hu=>Qns g f u (h'.2 u hu)
  |_=>exact absurd h Uc
theorem Qj0(g:G)(k:Nat):∀(f:Nat)(d:D),pq f d=true->eqN g (f+k) d d=some true
 |0,_,h=>absurd h Uc
 |f+1,d,h=>by
  rw[show f+1+k=f+k+1 by omega]
  cases d with
  |int i=>show some (i == i)=some true;rw[Tn]
  |str s=>show some (s == s)=some true;rw[Tn]
  |tup ds =>
   have h':(decide (ds.length<=100000) && ds.all (pq f))=true:=h
   rw[Uu]at h'
   have:∀es:List D,es.all (pq f)=true->eqGs (eqN g (f+k)) es es=some true:=λes=>by
    induction es with
    |nil=>exact λ_=>rfl
    |cons x xs ih =>
     intro hx
     rw[TD,Uu]at hx
     unfold eqGs
     rw[Qj0 g k f x hx.1,ih hx.2];rfl
   exact this ds h'.2
  |_=>exact absurd h Uc
theorem QcT{f:Nat}{ds:List D}(hz:ds.length<=100000)(h:∀x∈ds,pq f x=true):pq (f+1) (.tup ds)=true:=by
 show(decide (ds.length<=100000) && ds.all (pq f))=true
 rw[Uy hz,Us.mpr h];rfl
theorem Qnt(f:Nat){w:List Int}(hz:w.length<=100000):pq (f+2) (.tup (w.map .int))=true:=QcT (by rw[Ud];exact hz) λd hd=>by
 obtain⟨i,_,rfl⟩:=U9.mp hd;rfl
theorem Qbh{w:List Int}{k:Int}(hz:w.length<=1000):pq 3 (tkD (.many w k))=true:=QcT (by simp) λx hx=>by
 rcases Ui.mp hx with rfl|hx
 ·rfl
 rcases Ui.mp hx with rfl|hx
 ·exact Qnt 0 (by omega)
 ·rw[Ug.mp hx];rfl
theorem QlR{m:Nat}{t:Tk}(h:TkL m t):pq 3 (tkD t)=true:=by
 cases t with
 |one s=>rfl
 |many w k=>exact Qbh (by have:=h.2.2.2.1;omega)
theorem YN{m:Nat}{T:List Tk}(h:∀t∈T,TkL m t):∀x∈T.map tkD,pq 3 x=true:=λx hx=>by
 obtain⟨t,ht,rfl⟩:=U9.mp hx;exact QlR (h t ht)
theorem QiO(w:List Int):∀x∈ones w,pq 3 x=true:=λx hx=>by
 obtain⟨s,_,rfl⟩:=U9.mp hx;rfl
def TLO(o:Option D):Prop:=∀d,o=some d->∃X,d=.tup X/\X.length<=200/\∀x∈X,pq 3 x=true
theorem TLO.none:TLO none:=λd h=>by cases h
section
variable{m:Nat}{T:List Tk}{p:Nat}{w:List Int}{k:Int}
@[simp] theorem Qo1{g:G}{i j:Int}:QjN (.int i) (.int j) g=.ok (.int (if j<i then j else i)) g:=rfl
@[simp] theorem Qo2{g:G}{i j:Int}:QjO (.int i) (.int j) g=.ok (.int (if i<j then j else i)) g:=rfl
theorem QiP{g:G}:Z9 [tkD (.many w k)] g=.ok (tkD (.many w (k+1))) g:=by simp[Z9,Qa2,tkD]
theorem QiQ{α:Type}{xs:List α}{a:α}{p n:Nat}(h:p<xs.length):(xs.set p a).take (p+1)++(xs.set p a).drop (p+1+n)=xs.take p++(a::xs.drop (p+1+n)):=by
 rw[List.drop_set_of_lt (by omega),TZ,Uh h]
 have e:(xs.take p).length=p:=by rw[Tc];omega
 rw[List.take_append,e,show p+1-p=1 by omega,T3 (by omega),TH];rfl
theorem QiR{α:Type}{xs:List α}{a:α}{p q:Nat}(h:p<xs.length)(hq:q<=p):(xs.set p a).take q++(xs.set p a).drop p=xs.take q++(a::xs.drop (p+1)):=by
 rw[TZ,Uh h]
 have e:(xs.take p).length=p:=by rw[Tc];omega
 rw[List.take_append_of_le_length (by omega),List.take_take,Nat.min_eq_left hq,List.drop_append,e,List.drop_of_length_le (by omega),Nat.sub_self];rfl
theorem QlS{l:Nat}{X:List D}{g:G}{σ:S3}{o a c:ME}{i j:Int}(hl:g[l]?=some (.lst X))(hz:X.length<=60)(ho:∀g,o σ g=.ok (.ref l) g)(ha:∀g,a σ g=.ok (.int i) g)(hc:∀g,c σ g=.ok (.int j) g):∃g',Keeps [] g g'/\mOp1 QZ (mOp2 pAdd (QH o Qy (Q0 a)) (QH o (Q0 c) Qy)) σ g=.ok (.tup (cutD X none (some i)++cutD X (some j) none)) g':=by
 have k1:Keeps [] g (g++[.lst (cutD X none (some i))]):=.push _
 have s1:QH o Qy (Q0 a) σ g=.ok (.ref g.length) (g++[.lst (cutD X none (some i))]):=by simp[ho,ha,Qbo,hl]
 have p1:=Qo (g:=g) (.lst (cutD X none (some i)))
 generalize g++[GO.lst (cutD X none (some i))]=g1 at k1 s1 p1
 have k2:Keeps [] g1 (g1++[.lst (cutD X (some j) none)]):=.push _
 have s2:QH o (Q0 c) Qy σ g1=.ok (.ref g1.length) (g1++[.lst (cutD X (some j) none)]):=by simp[ho,hc,Qbo,k1.at' _ _ (by simp) hl]
 have p2:=Qo (g:=g1) (.lst (cutD X (some j) none))
 have p1':=k2.at' _ _ (by simp) p1
 generalize g1++[GO.lst (cutD X (some j) none)]=g2 at k2 s2 p2 p1'
 have z1:(cutD X none (some i)).length<=X.length:=JW
 have z2:(cutD X (some j) none).length<=X.length:=JW
 refine⟨_,k1.trans (k2.trans (.push (.lst (cutD X none (some i)++cutD X (some j) none)))),Z3 (Qw s1 s2 (YT p1' p2 (by omega))) ?_⟩
 unfold QZ;dsimp only;rw[Qo]
theorem setD{g:G}{l p:Nat}{c:List D}{y:D}{σ:S3}{o i v:ME}(hl:g[l]?=some (.lst c))(h1:p<c.length)(hv:v σ g=.ok y g)(ho:o σ g=.ok (.ref l) g)(hi:i σ g=.ok (.int p) g):Jf o i v σ g=.nx σ (g.set l (.lst (c.set p y))):=by
 unfold Jf
 rw[hv];dsimp only
 rw[ho];dsimp only
 rw[hi];dsimp only
 rw[hl];dsimp only
 unfold ixD
 rw[Uh (by omega),Uh (by omega)]
 rfl
theorem QiS(hp:T[p]?=some (.many w k))(hT:∀t∈T,TkL m t)(hz:T.length<=60)(rw':Bool):∃o:Option D,(∀g,∃g',Keeps [] g g'/\Q1 [.tup (T.map tkD),.int p,.bl rw'] g=Pr o g')/\(∀g,∃g',Keeps [] g g'/\YF [.tup (T.map tkD),.int p,.int (if rw' then (p:Int)+1 else p-w.length)] g=Lw o g')/\TLO o:=by
 have hw:=hT _ (U3 hp)
 have hwl:=hw.2.2.2.1
 have hpl:=(Uf.mp hp).1
 have hix:atD (T.map tkD) p=some (tkD (.many w k)):=atN (by rw[UB,hp];rfl)
 have zo:(ones w).length=w.length:=by simp[ones]
 generalize hF:(if rw' then (p:Int)+1 else p-w.length)=F
 have hF':(if rw' then Res.ok (D.int ((p:Int)+1)) else Res.ok (D.int (p-w.length)))=(Res.ok (D.int F):G->Res D):=by rw[<-hF];cases rw' <;> rfl
 have hne:=QlO (x:=.tup (cutD (T.map tkD) (some F) (some (F+w.length)))) (y:=.tup (ones w)) (QkJ Qnr) (QkJ QlQ)
 by_cases h0:F<0
 ·refine⟨none,λg=>⟨g,.refl,?_⟩,λg=>⟨g,.refl,?_⟩,.none⟩
  ·cases rw' <;> simp at hF <;> simp[Q1,ZC,hix,Pr,tkD,hF,h0]
  ·simp[YF,Qas,hix,Lw,tkD,h0]
 ·have hadd:=λ(g:G)(xs ys:List D) h=>Qaw (g:=g) (xs:=xs) (ys:=ys) h
  have hF2:∃q:Nat,(q:Int)=F:=⟨F.toNat,by omega⟩
  obtain⟨q,hq⟩:=hF2
  have e2:=λg=>QdF (w:=w) (g:=g) (by omega)
  have hcl:∀(lo hi:Option Int),(cutD (T.map tkD) lo hi).length<=60:=λlo hi=>Uw JW (by rw[Ud];exact hz)
  refine⟨if eqB (.tup (cutD (T.map tkD) (some F) (some (F+w.length)))) (.tup (ones w))=true then some (.tup (((T.map tkD).set p (tkD (.many w (k+1)))).take q++((T.map tkD).set p (tkD (.many w (k+1)))).drop (q+w.length))) else none,λg=>⟨g++[.lst (ones w)],.push _,?_⟩,λg=>?_,λd hd=>?_⟩
  ·have tk:tkD (.many w (k+1))=.tup [.str "many",.tup (w.map .int),.int (k+1)]:=rfl
   have r1:Z9 [.tup [.str "many",.tup (w.map .int),.int k]] (g++[.lst (ones w)])=.ok (.tup [.str "many",.tup (w.map .int),.int (k+1)]) (g++[.lst (ones w)]):=QiP
   have hc1:∀(i:Int) d,pAdd (.tup (cutD (T.map tkD) none (some i))) (.tup [d]) (g++[.lst (ones w)])=.ok (.tup (cutD (T.map tkD) none (some i)++[d])) (g++[.lst (ones w)]):=λi d=>hadd _ _ _ (by have:=hcl none (some i);simp;omega)
   have hc2:∀(i j:Int) d,pAdd (.tup (cutD (T.map tkD) none (some i)++[d])) (.tup (cutD (T.map tkD) (some j) none)) (g++[.lst (ones w)])=.ok (.tup (cutD (T.map tkD) none (some i)++(d::cutD (T.map tkD) (some j) none))) (g++[.lst (ones w)]):=λi j d=>(hadd _ _ _ (by have:=hcl none (some i);have:=hcl (some j) none;simp;omega)).trans (by simp)
   have hfin:eqB (.tup (cutD (T.map tkD) (some F) (some (F+w.length)))) (.tup (ones w))=true->cutD (T.map tkD) none (some (if (p:Int)<F then (p:Int) else F))++(tkD (.many w (k+1))::cutD (T.map tkD) (some (if F+w.length<(p:Int)+1 then (p:Int)+1 else F+w.length)) none)=((T.map tkD).set p (tkD (.many w (k+1)))).take q++((T.map tkD).set p (tkD (.many w (k+1)))).drop (q+w.length):=λ_=>by
    cases rw'
    ·have:q+w.length=p:=by simp at hF;omega
     rw[Um (by omega),Uh (by omega),this,QiR (by simp;omega) (by omega),<-hq,show(p:Int)+1=((p+1:Nat):Int) by omega,QiH,Qee]
    ·have:q=p+1:=by simp at hF;omega
     rw[Uh (by omega),Um (by omega),<-hq,this,QiQ (by simp;omega),show((p+1:Nat):Int)+(w.length:Int)=((p+1+w.length:Nat):Int) by omega,QiH,Qee]
   cases hβ:eqB (.tup (cutD (T.map tkD) (some F) (some (F+w.length)))) (.tup (ones w)) with
   |false=>cases rw' <;> simp at hF <;> simp[Q1,ZC,hix,Pr,tkD,hF,h0,e2,hne,hβ]
   |true =>
    have hfin:=hfin hβ
    rw[Uh rfl,<-hfin]
    cases rw' <;> simp at hF <;> simp[Q1,ZC,hix,Pr,hF,h0,e2,hne,hβ,r1,hc1,hc2,tkD]
  ·have e3:=λσ (h:mVar 3 σ g=.ok (.tup (w.map .int)) g)=>QcS (g:=g) h (by omega)
   generalize hone:mOp1 QZ (Yc (QX (mVar 3)) 1 [] (gSet 0) ZX (mOpA pTup (Qa (mLit (.str "one")) (Qa (mVar 0) mNil))))=X at e3
   have k1:Keeps [] g (g++[.lst (ones w)]):=.push _
   generalize g++[GO.lst (ones w)]=g1 at e3 k1
   unfold YF Qas
   rw[hone]
   cases hβ:eqB (.tup (cutD (T.map tkD) (some F) (some (F+w.length)))) (.tup (ones w)) with
   |false=>exact⟨g1,k1,by simp[hix,Lw,tkD,h0,e3,hne,hβ]⟩
   |true =>
    have k2:Keeps [] g1 (g1++[.lst ((T.map tkD).set p (tkD (.many w (k+1))))]):=.push _
    obtain⟨g',k3,e4⟩:=QlS (σ:=[some (.tup (T.map tkD)),some (.int p),some (.int F),some (.tup (w.map .int)),some (.int (F+w.length)),some (.ref g1.length)]) (o:=mVar 5) (a:=mVar 2) (c:=mVar 4) (i:=F) (j:=F+w.length) (Qo (g:=g1) (.lst ((T.map tkD).set p (tkD (.many w (k+1)))))) (by simpa using hz) (λ_=>rfl) (λ_=>rfl) (λ_=>rfl)
    refine⟨g',k1.trans (k2.trans k3),ZR rfl ?_⟩
    rw[Uh rfl]
    rw[<-hq]at hne hβ e4 h0 ⊢
    rw[show(q:Int)+(w.length:Int)=((q+w.length:Nat):Int) by omega]at e4
    rw[QiH,Qee]at e4
    refine Ql [some (.tup (T.map tkD)),some (.int p),some (.int q),some (.tup (w.map .int)),none,none] g ?_ (Ql [some (.tup (T.map tkD)),some (.int p),some (.int q),some (.tup (w.map .int)),some (.int (q+w.length:Nat)),none] g ?_ (Ql _ g1 (iff' g1 ?_ rfl) (Ql [some (.tup (T.map tkD)),some (.int p),some (.int q),some (.tup (w.map .int)),some (.int (q+w.length:Nat)),some (.ref g1.length)] (g1++[.lst (T.map tkD)]) rfl (Ql _ _ (setD (y:=tkD (.many w (k+1))) (Qo _) (by simpa using hpl) ?_ rfl rfl) ?_))))
    ·simp[hix,tkD]
    ·simp
    ·simp[h0,e3,hne,hβ]
    ·simp[hix,tkD]
    ·rw[QjV];exact Yz e4
  ·by_cases hβ:eqB (.tup (cutD (T.map tkD) (some F) (some (F+w.length)))) (.tup (ones w))=true
   ·rw[Uh hβ]at hd
    cases hd
    refine⟨_,rfl,by simp;omega,λx hx=>?_⟩
    have hm:x∈(T.map tkD).set p (tkD (.many w (k+1))):=by
     rcases Up.mp hx with z|z
     ·exact Rg z
     ·exact Wn z
    rcases RJ hm with z|z
    ·exact YN hT x z
    ·rw[z];exact Qbh (by omega)
   ·rw[Um hβ]at hd;cases hd
end
section
variable{m:Nat}{T:List Tk}{p:Nat}{w:List Int}{k:Int}
theorem QfL{i n:Int}{g:G}(h0:0<=i)(h1:i<n):QO [.int i,.int n] g=.ok (.bl true) g:=by rw[Y5 (.int i) n g .int rfl,show JE (.int i) n=true from Uy ⟨h0,h1⟩]
theorem Qej{i n:Int}{g:G}(h:¬(0<=i/\i<n)):QO [.int i,.int n] g=.ok (.bl false) g:=by rw[Y5 (.int i) n g .int rfl,show JE (.int i) n=false from Uo h]
theorem QiT(hp:T[p]?=some (.many w k))(hT:∀t∈T,TkL m t)(hz:T.length<=60)(rw':Bool):∃o:Option D,(∀g,QE [.tup (T.map tkD),.int p,.bl rw'] g=Pr o g)/\(∀g,Z0 [.tup (T.map tkD),.int p,.bl rw'] g=Lw o g)/\TLO o:=by
 have hcm:∀(lo hi:Option Int),∀x∈cutD (T.map tkD) lo hi,pq 3 x=true:=λlo hi x hx=>YN hT x (QaT x hx)
 have hw:=hT _ (U3 hp)
 have hpl:=(Uf.mp hp).1
 have hix:atD (T.map tkD) p=some (.tup [.str "many",.tup (w.map .int),.int k]):=atN (by rw[UB,hp];rfl)
 have hadd:=λ(g:G)(xs ys:List D) h=>Qaw (g:=g) (xs:=xs) (ys:=ys) h
 have hcl:∀(lo hi:Option Int),(cutD (T.map tkD) lo hi).length<=60:=λlo hi=>Uw JW (by rw[Ud];exact hz)
 have a1:∀(g:G)(i:Int) x y,pAdd (.tup (cutD (T.map tkD) none (some i))) (.tup [x,y]) g=.ok (.tup (cutD (T.map tkD) none (some i)++[x,y])) g:=λg i x y=>hadd _ _ _ (by have:=hcl none (some i);simp;omega)
 have a2:∀(g:G)(i j:Int) x y,pAdd (.tup (cutD (T.map tkD) none (some i)++[x,y])) (.tup (cutD (T.map tkD) (some j) none)) g=.ok (.tup (cutD (T.map tkD) none (some i)++([x,y]++cutD (T.map tkD) (some j) none))) g:=λg i j x y=>(hadd _ _ _ (by have:=hcl none (some i);have:=hcl (some j) none;simp;omega)).trans (by simp)
 cases rw' with
 |true =>
  rcases TB w with rfl|⟨v,z,rfl⟩
  ·exact absurd rfl hw.1
  have a3:∀g,pAdd (.tup [.int z]) (.tup (v.map .int)) g=.ok (.tup (.int z::v.map .int)) g:=λg=>hadd _ _ _ (by have:=hw.2.2.2.1;simp at this ⊢;omega)
  by_cases h0:p=0
  ·subst h0
   have hb':∀g,QO [.int (-1),.int T.length] g=.ok (.bl false) g:=λg=>Qej (by omega)
   simp at hix
   exact⟨none,λg=>by simp[QE,QM,hix,hb',Pr],λg=>by simp[Z0,YC,hix,Lw],.none⟩
  ·have hb':∀g,QO [.int ((p:Int) - 1),.int T.length] g=.ok (.bl true) g:=λg=>QfL (by omega) (by omega)
   have hp1:∃t,T[p-1]?=some t:=⟨T[p-1],UG (by omega)⟩
   obtain⟨t,ht⟩:=hp1
   have hix1:atD (T.map tkD) ((p:Int) - 1)=some (tkD t):=by rw[show(p:Int) - 1=((p-1:Nat):Int) by omega];exact atN (by rw[UB,ht];rfl)
   have hne:=QlO (x:=tkD t) (y:=.tup [.str "one",.int z]) (QlP 5 t) rfl
   cases hβ:eqB (tkD t) (.tup [.str "one",.int z]) with
   |false=>exact⟨none,λg=>by simp[QE,QM,hix,hb',Pr,hix1,hne,hβ],λg=>by simp[Z0,YC,hix,Lw,h0,hix1,hne,hβ],.none⟩
   |true=>exact⟨some (.tup (cutD (T.map tkD) none (some ((p:Int) - 1))++([.tup [.str "many",.tup (.int z::v.map .int),.int k],tkD t]++cutD (T.map tkD) (some ((p:Int)+1)) none))),λg=>by simp[QE,QM,hix,hb',Pr,hix1,hne,hβ,a1,a2,a3],λg=>by simp[Z0,YC,hix,Lw,h0,hix1,hne,hβ,a1,a2,a3],λd hd=>by
    cases hd
    refine⟨_,rfl,by have:=hcl none (some ((p:Int) - 1));have:=hcl (some ((p:Int)+1)) none;simp;omega,λx hx=>?_⟩
    rcases Up.mp hx with q|q
    ·exact hcm _ _ x q
    rcases Up.mp q with q|q
    ·rcases Ui.mp q with rfl|q
     ·exact Qbh (w:=z::v) (by have:=hw.2.2.2.1;simp at this ⊢;omega)
     ·rw[Ug.mp q];exact QlR (hT t (U3 ht))
    ·exact hcm _ _ x q⟩
 |false =>
  cases w with
  |nil=>exact absurd rfl hw.1
  |cons z v =>
  have a3:∀g,pAdd (.tup (v.map .int)) (.tup [.int z]) g=.ok (.tup (v.map .int++[.int z])) g:=λg=>hadd _ _ _ (by have:=hw.2.2.2.1;simp at this ⊢;omega)
  by_cases h0:p+1=T.length
  ·have hb':∀g,QO [.int ((p:Int)+1),.int T.length] g=.ok (.bl false) g:=λg=>Qej (by omega)
   have h0':(p:Int)+1=T.length:=by omega
   exact⟨none,λg=>by simp[QE,QM,hix,hb',Pr],λg=>by simp[Z0,YC,hix,Lw,h0'],.none⟩
  ·have hb':∀g,QO [.int ((p:Int)+1),.int T.length] g=.ok (.bl true) g:=λg=>QfL (by omega) (by omega)
   have h0':¬((p:Int)+1=T.length):=by omega
   have hp1:∃t,T[p+1]?=some t:=⟨T[p+1],UG (by omega)⟩
   obtain⟨t,ht⟩:=hp1
   have hix1:atD (T.map tkD) ((p:Int)+1)=some (tkD t):=by rw[show(p:Int)+1=((p+1:Nat):Int) by omega];exact atN (by rw[UB,ht];rfl)
   have hne:=QlO (x:=tkD t) (y:=.tup [.str "one",.int z]) (QlP 5 t) rfl
   have h2:(p:Int)+1+1=p+2:=by omega
   cases hβ:eqB (tkD t) (.tup [.str "one",.int z]) with
   |false=>exact⟨none,λg=>by simp[QE,QM,hix,hb',Pr,hix1,hne,hβ],λg=>by simp[Z0,YC,hix,Lw,h0',hix1,hne,hβ],.none⟩
   |true=>exact⟨some (.tup (cutD (T.map tkD) none (some (p:Int))++([tkD t,.tup [.str "many",.tup (v.map .int++[.int z]),.int k]]++cutD (T.map tkD) (some ((p:Int)+2)) none))),λg=>by simp[QE,QM,hix,hb',Pr,hix1,hne,hβ,a1,a2,a3,h2],λg=>by simp[Z0,YC,hix,Lw,h0',hix1,hne,hβ,a1,a2,a3],λd hd=>by
    cases hd
    refine⟨_,rfl,by have:=hcl none (some ((p:Int)));have:=hcl (some ((p:Int)+2)) none;simp;omega,λx hx=>?_⟩
    rcases Up.mp hx with q|q
    ·exact hcm _ _ x q
    rcases Up.mp q with q|q
    ·rcases Ui.mp q with rfl|q
     ·exact QlR (hT t (U3 ht))
     ·rw[Ug.mp q];exact(by have:=Qbh (w:=v++[z]) (k:=k) (by have:=hw.2.2.2.1;simp at this ⊢;omega);simpa[tkD]using this)
    ·exact hcm _ _ x q⟩
theorem QdG(s:Bool)(T:List Tk)(a:Nat):(∃(p:Nat)(w:List Int)(k:Int),T[p]?=some (.many w k)/\(∀g,QS [.tup (T.map tkD),.str (fc s),.int a] g=.ok (.int p) g)/\∀g,QbA [.str (fc s),.tup (T.map tkD),.int a] g=.ok (.int p) g) \/
  ((∀g,QS [.tup (T.map tkD),.str (fc s),.int a] g=.raise (8,none) g)/\∀g,QbA [.str (fc s),.tup (T.map tkD),.int a] g=.ok .non g):=by
 have ha:¬((a:Int)<0):=by omega
 by_cases h:a<T.length
 ·have hb':∀g,QO [.int a,.int T.length] g=.ok (.bl true) g:=λg=>QfL (by omega) (by omega)
  have hge:¬((T.length:Int)<=a):=by omega
  have key:∀(p:Nat)(t:Tk),T[p]?=some t->(p:Int)=(if s then (T.length:Int) - 1-a else a)->(∃(p:Nat)(w:List Int)(k:Int),T[p]?=some (.many w k)/\(∀g,QS [.tup (T.map tkD),.str (fc s),.int a] g=.ok (.int p) g)/\∀g,QbA [.str (fc s),.tup (T.map tkD),.int a] g=.ok (.int p) g) \/
  ((∀g,QS [.tup (T.map tkD),.str (fc s),.int a] g=.raise (8,none) g)/\∀g,QbA [.str (fc s),.tup (T.map tkD),.int a] g=.ok .non g):=λp t ht hp=>by
   have hix:atD (T.map tkD) p=some (tkD t):=atN (by rw[UB,ht];rfl)
   rw[hp]at hix
   cases t with
   |one z=>refine .inr ⟨λg=>?_,λg=>?_⟩ <;> cases s <;> simp at hix <;> simp[QS,ZF,QbA,Qgz,hb',hix,tkD,ha,hge]
   |many w k =>
    refine .inl ⟨p,w,k,ht,λg=>?_,λg=>?_⟩ <;> rw[hp] <;> cases s <;> simp at hix <;> simp[QS,ZF,QbA,Qgz,hb',hix,tkD,ha,hge]
  cases s
  ·exact key a T[a] (UG h) rfl
  ·exact key (T.length-1-a) T[T.length-1-a] (UG (by omega)) (by simp;omega)
 ·have hb':∀g,QO [.int a,.int T.length] g=.ok (.bl false) g:=λg=>Qej (by omega)
  have hge:(T.length:Int)<=a:=by omega
  refine .inr ⟨λg=>?_,λg=>?_⟩ <;> cases s <;> simp[QS,ZF,QbA,Qgz,hb',ha,hge]
end
theorem wds:(Str.ofString "back" == Str.ofString "draw")=false/\(Str.ofString "back" == Str.ofString "join")=false/\(Str.ofString "back" == Str.ofString "open")=false/\(Str.ofString "back" == Str.ofString "over")=false/\(Str.ofString "back" == Str.ofString "roll")=false/\(Str.ofString "back" == Str.ofString "step")=false/\(Str.ofString "draw" == Str.ofString "back")=false/\(Str.ofString "draw" == Str.ofString "join")=false/\(Str.ofString "draw" == Str.ofString "open")=false/\(Str.ofString "draw" == Str.ofString "over")=false/\(Str.ofString "draw" == Str.ofString "roll")=false/\(Str.ofString "draw" == Str.ofString "step")=false/\(Str.ofString "join" == Str.ofString "back")=false/\(Str.ofString "join" == Str.ofString "draw")=false/\(Str.ofString "join" == Str.ofString "open")=false/\(Str.ofString "join" == Str.ofString "over")=false/\(Str.ofString "join" == Str.ofString "roll")=false/\(Str.ofString "join" == Str.ofString "step")=false/\(Str.ofString "open" == Str.ofString "over")=false/\(Str.ofString "open" == Str.ofString "step")=false/\(Str.ofString "over" == Str.ofString "open")=false/\(Str.ofString "over" == Str.ofString "step")=false/\(Str.ofString "pad" == Str.ofString "open")=false/\(Str.ofString "pad" == Str.ofString "over")=false/\(Str.ofString "pad" == Str.ofString "step")=false/\(Str.ofString "pad" == Str.ofString "trim")=false/\(Str.ofString "roll" == Str.ofString "back")=false/\(Str.ofString "roll" == Str.ofString "draw")=false/\(Str.ofString "roll" == Str.ofString "join")=false/\(Str.ofString "roll" == Str.ofString "open")=false/\(Str.ofString "roll" == Str.ofString "over")=false/\(Str.ofString "roll" == Str.ofString "step")=false/\(Str.ofString "step" == Str.ofString "open")=false/\(Str.ofString "step" == Str.ofString "over")=false/\(Str.ofString "trim" == Str.ofString "open")=false/\(Str.ofString "trim" == Str.ofString "over")=false/\(Str.ofString "trim" == Str.ofString "pad")=false/\(Str.ofString "trim" == Str.ofString "step")=false:=by decide +kernel
inductive Wd where|join|draw|roll|back
noncomputable def wS:Wd->Str
 |.join=>Str.ofString "join" |.draw=>Str.ofString "draw" |.roll=>Str.ofString "roll" |.back=>Str.ofString "back"
section
variable{m:Nat}{T:List Tk}{g:G}
@[simp] theorem Qo3{neg:Bool}{s a b:Str}:pIn neg (.str s) (.tup [.str a,.str b]) g=.ok (.bl (if neg=true then !((a == s) || (b == s)) else ((a == s) || (b == s)))) g:=by
 show Res.ok (D.bl (if neg=true then !((a == s) || ((b == s) || false)) else ((a == s) || ((b == s) || false)))) g=_
 rw[RO]
@[simp] theorem Qos{neg:Bool}{i:Int}:pIn neg (.int i) (.tup [.int 2,.int 3]) g=.ok (.bl (if neg=true then !((2 == i) || (3 == i)) else ((2 == i) || (3 == i)))) g:=by
 show Res.ok (D.bl (if neg=true then !((2 == i) || ((3 == i) || false)) else ((2 == i) || ((3 == i) || false)))) g=_
 rw[RO]
@[simp] theorem Qo4{ds:List D}:ZS .tuple (.tup ds) g=.ok (.bl true) g:=rfl
theorem QiU(hT:∀t∈T,TkL m t)(hz:T.length<=60)(wd:Wd)(s:Bool)(a:Nat):∃o:Option D,(∀g,∃g',Keeps [] g g'/\Zb [.tup (T.map tkD),.str (wS wd),.str (fc s),.int a] g=Pr o g')/\(∀g,∃g',Keeps [] g g'/\Ze [.str (wS wd),.str (fc s),.tup (T.map tkD),.int a] g=Lw o g')/\TLO o:=by
 rcases QdG s T a with⟨p,w,k,hp,e1,e2⟩|⟨e1,e2⟩
 ·have hix:atD (T.map tkD) p=some (.tup [.str "many",.tup (w.map .int),.int k]):=atN (by rw[UB,hp];rfl)
  have hgath:∀r,(wd=.join/\r = !s\/wd=.draw/\r=s)->∃o:Option D,(∀g,∃g',Keeps [] g g'/\Zb [.tup (T.map tkD),.str (wS wd),.str (fc s),.int a] g=Pr o g')/\(∀g,∃g',Keeps [] g g'/\Ze [.str (wS wd),.str (fc s),.tup (T.map tkD),.int a] g=Lw o g')/\TLO o:=λr hr=>by
   obtain⟨o,b1,b2,b3⟩:=QiS hp hT hz r
   refine⟨o,λg=>?_,λg=>?_,b3⟩
   ·obtain⟨g',k1,q⟩:=b1 g
    refine⟨g',k1,?_⟩
    cases s <;> rcases hr with⟨rfl,rfl⟩|⟨rfl,rfl⟩ <;> cases o <;> simp[Pr]at q <;> simp[Zb,ZT,e1,wS,wds,q,Pr]
   ·obtain⟨g',k1,q⟩:=b2 g
    refine⟨g',k1,?_⟩
    cases s <;> rcases hr with⟨rfl,rfl⟩|⟨rfl,rfl⟩ <;> cases o <;> simp[Lw]at q <;> simp[Ze,YD,e2,wS,wds,q,Lw,isNon,hix]
  have hpass:∀r,(wd=.roll/\r = !s\/wd=.back/\r=s)->∃o:Option D,(∀g,∃g',Keeps [] g g'/\Zb [.tup (T.map tkD),.str (wS wd),.str (fc s),.int a] g=Pr o g')/\(∀g,∃g',Keeps [] g g'/\Ze [.str (wS wd),.str (fc s),.tup (T.map tkD),.int a] g=Lw o g')/\TLO o:=λr hr=>by
   obtain⟨o,b1,b2,b3⟩:=QiT hp hT hz r
   refine⟨o,λg=>⟨g,.refl,?_⟩,λg=>⟨g,.refl,?_⟩,b3⟩
   ·have q:=b1 g
    cases s <;> rcases hr with⟨rfl,rfl⟩|⟨rfl,rfl⟩ <;> cases o <;> simp[Pr]at q <;> simp[Zb,ZT,e1,wS,wds,q,Pr]
   ·have q:=b2 g
    cases s <;> rcases hr with⟨rfl,rfl⟩|⟨rfl,rfl⟩ <;> cases o <;> simp[Lw]at q <;> simp[Ze,YD,e2,wS,wds,q,Lw,isNon,hix]
  cases wd
  ·exact hgath _ (.inl ⟨rfl,rfl⟩)
  ·exact hgath _ (.inr ⟨rfl,rfl⟩)
  ·exact hpass _ (.inl ⟨rfl,rfl⟩)
  ·exact hpass _ (.inr ⟨rfl,rfl⟩)
 ·exact⟨none,λg=>⟨g,.refl,by simp[Zb,ZT,e1,Pr]⟩,λg=>⟨g,.refl,by simp[Ze,YD,e2,Lw,isNon]⟩,.none⟩
noncomputable def eS(pad:Bool):Str:=if pad then Str.ofString "pad" else Str.ofString "trim"
theorem Qj1(hT:∀t∈T,TkL m t)(hz:T.length<=60)(pad s:Bool):∃o:Option D,(∀g,ZN [.tup (T.map tkD),.str (eS pad),.str (fc s)] g=Pr o g)/\(∀g,∃g',Keeps [] g g'/\Zd [.str (eS pad),.str (fc s),.tup (T.map tkD)] g=Lw o g')/\TLO o:=by
 have a1:∀(g:G) x,pAdd (.tup (T.map tkD)) (.tup [x]) g=.ok (.tup (T.map tkD++[x])) g:=λg x=>Qaw (by simp;omega)
 have a2:∀(g:G) x,pAdd (.tup [x]) (.tup (T.map tkD)) g=.ok (.tup (x::T.map tkD)) g:=λg x=>Qaw (by simp;omega)
 cases pad
 ·have key:∀(t:Tk)(X:List Tk),(s=true/\T=X++[t]\/s=false/\T=t::X)->∃o:Option D,(∀g,ZN [.tup (T.map tkD),.str (eS false),.str (fc s)] g=Pr o g)/\(∀g,∃g',Keeps [] g g'/\Zd [.str (eS false),.str (fc s),.tup (T.map tkD)] g=Lw o g')/\TLO o:=λt X h=>by
   have hl:¬((X.length:Int)+1=0):=by omega
   have hne:∀z g,pNe (.tup [.tup [.str "one",.int z]]) (.tup [.tup [.str "one",.int 0]]) g=.ok (.bl (!(z == 0))) g:=λz g=>by simp[pNe,eqN,eqGs]
   have hne1:∀z g,pNe (.tup [.str "one",.int z]) (.tup [.str "one",.int 0]) g=.ok (.bl (!(z == 0))) g:=λz g=>by simp[pNe,eqN,eqGs]
   have hnm:∀(w:List Int) k g,pNe (.tup [.tup [.str "many",.tup (w.map .int),.int k]]) (.tup [.tup [.str "one",.int 0]]) g=.ok (.bl true) g:=λw k g=>by simp[pNe,eqN,eqGs]
   have hnm1:∀(w:List Int) k g,pNe (.tup [.str "many",.tup (w.map .int),.int k]) (.tup [.str "one",.int 0]) g=.ok (.bl true) g:=λw k g=>by simp[pNe,eqN,eqGs]
   have hn:∃β:Bool,(∀g,pNe (.tup [tkD t]) (.tup [.tup [.str "one",.int 0]]) g=.ok (.bl β) g)/\∀g,pNe (tkD t) (.tup [.str "one",.int 0]) g=.ok (.bl β) g:=by
    cases t with
    |one z=>exact⟨_,hne z,hne1 z⟩
    |many w k=>exact⟨_,hnm w k,hnm1 w k⟩
   obtain⟨β,n1,n2⟩:=hn
   refine⟨if β then none else some (.tup (X.map tkD)),λg=>?_,λg=>?_,λd hd=>?_⟩
   ·rcases h with⟨rfl,rfl⟩|⟨rfl,rfl⟩ <;> cases β <;> simp[ZN,YZ,eS,wds,n1,Pr]
   ·cases β
    ·refine⟨(g++[.lst [.int (-1),.int 0]])++[.lst [.tup (T.map tkD).dropLast,.tup (T.map tkD).tail]],Keeps.trans (.push _) (.push _),?_⟩
     have q:=Qnm (g:=g++[GO.lst [.int (-1),.int 0]]) (ds:=[.tup (T.map tkD).dropLast,.tup (T.map tkD).tail])
     have q':=Qnn (g:=g++[GO.lst [.int (-1),.int 0]]) (ds:=[.tup (T.map tkD).dropLast,.tup (T.map tkD).tail])
     rcases h with⟨rfl,rfl⟩|⟨rfl,rfl⟩ <;> simp at q q' <;> simp[Zd,Yx,eS,wds,n2,Lw,hl,q,q']
    ·refine⟨g++[.lst [.int (-1),.int 0]],.push _,?_⟩
     rcases h with⟨rfl,rfl⟩|⟨rfl,rfl⟩ <;> simp[Zd,Yx,eS,wds,n2,Lw,hl]
   ·cases β with
    |true=>cases hd
    |false =>
     cases hd
     have:∀x∈X,x∈T:=λx hx=>by rcases h with⟨_,rfl⟩|⟨_,rfl⟩ <;> simp[hx]
     have hx:X.length<=T.length:=by rcases h with⟨_,rfl⟩|⟨_,rfl⟩ <;> simp
     exact⟨_,rfl,by simp;omega,YN λt ht=>hT t (this t ht)⟩
  have nil:T=[]->∃o:Option D,(∀g,ZN [.tup (T.map tkD),.str (eS false),.str (fc s)] g=Pr o g)/\(∀g,∃g',Keeps [] g g'/\Zd [.str (eS false),.str (fc s),.tup (T.map tkD)] g=Lw o g')/\TLO o:=λh=>by
   subst h
   have n0:∀g,pNe (.tup []) (.tup [.tup [.str "one",.int 0]]) g=.ok (.bl true) g:=λg=>rfl
   exact⟨none,λg=>by cases s <;> simp[ZN,YZ,eS,wds,Pr,n0],λg=>⟨g,.refl,by simp[Zd,Yx,eS,wds,Lw]⟩,.none⟩
  cases s
  ·cases T with
   |nil=>exact nil rfl
   |cons t X=>exact key t X (.inr ⟨rfl,rfl⟩)
  ·rcases TB T with h|⟨X,t,h⟩
   ·exact nil h
   ·exact key t X (.inl ⟨rfl,by rw[h];simp⟩)
 ·refine⟨some (.tup (if s then T.map tkD++[.tup [.str "one",.int 0]] else .tup [.str "one",.int 0]::T.map tkD)),λg=>?_,λg=>⟨_,.push (.lst [.tup (T.map tkD++[.tup [.str "one",.int 0]]),.tup (.tup [.str "one",.int 0]::T.map tkD)]),?_⟩,λd hd=>?_⟩
  ·cases s <;> simp[ZN,YZ,eS,a1,a2,Pr]
  ·cases s <;> simp[Zd,Yx,eS,a1,a2,Lw]
  ·cases hd
   refine⟨_,rfl,by split <;> simp <;> omega,λx hx=>?_⟩
   have:x∈T.map tkD\/x=.tup [.str "one",.int 0]:=by cases s <;> simp at hx ⊢ <;> first|exact hx|exact hx.symm
   rcases this with z|rfl
   ·exact YN hT x z
   ·rfl
end
inductive Mv where
 |step|over|opn|ends (pad s:Bool)|many (wd:Wd) (s:Bool) (a:Nat)
noncomputable def mvD:Mv->D
 |.step=>.tup [.str "step"]
 |.over=>.tup [.str "over"]
 |.opn=>.tup [.str "open"]
 |.ends pad s=>.tup [.str (eS pad),.str (fc s)]
 |.many wd s a=>.tup [.str (wS wd),.str (fc s),.int a]
theorem QfM{st:Int}{b:Bool}{L R:List D}(hL:∀x∈L,pq 3 x=true)(hR:∀x∈R,pq 3 x=true)(zL:L.length<=100000)(zR:R.length<=100000):pq 5 (shD st b L R)=true:=QcT (by simp) λx hx=>by
 rcases Ui.mp hx with rfl|hx
 ·rfl
 rcases Ui.mp hx with rfl|hx
 ·rfl
 rcases Ui.mp hx with rfl|hx
 ·exact QcT zL hL
 ·rw[Ug.mp hx];exact QcT zR hR
theorem Qb6{x:D}{xs:List D}(h:x∈xs.dropLast):x∈xs:=by rw[Tz]at h;exact Rg h
theorem QlT{b:Bool}{L:List D}:(∀x∈rsL b L,x∈L)/\(rsL b L).length<=L.length:=by
 cases b
 ·exact⟨λx hx=>Qb6 hx,by simp[rsL]⟩
 ·exact⟨λx hx=>hx,Ul _⟩
theorem QlU{b:Bool}{R:List D}:(∀x∈rsR b R,x∈R)/\(rsR b R).length<=R.length:=by
 cases b
 ·exact⟨λx hx=>hx,Ul _⟩
 ·exact⟨λx hx=>Wo hx,by simp[rsR]⟩
def SHO(o:Option D):Prop:=∀d,o=some d->pq 5 d=true
section
variable{rows:List (List D)}{n m:Nat}{st:Int}{b:Bool}{L R:List Tk}
theorem QiV{s:Int}{w:Bool}{t:D}(hL:∀t∈L,TkL m t)(hR:∀t∈R,TkL m t)(zL:L.length<=60)(zR:R.length<=60)(ht:pq 3 t=true):pq 5 (gone b (L.map tkD) (R.map tkD) s w t)=true:=by
 have l1:=QlT (b:=b) (L:=L.map tkD)
 have r1:=QlU (b:=b) (R:=R.map tkD)
 rw[Ud]at l1 r1
 unfold gone
 split
 ·refine QfM (λx hx=>?_) (λx hx=>YN hR x (r1.1 x hx)) (by simp;omega) (by omega)
  rcases Up.mp hx with z|z
  ·exact YN hL x (l1.1 x z)
  ·rw[Ug.mp z];exact ht
 ·refine QfM (λx hx=>YN hL x (l1.1 x hx)) (λx hx=>?_) (by omega) (by simp;omega)
  rcases Ui.mp hx with rfl|z
  ·exact ht
  ·exact YN hR x (r1.1 x z)
theorem QiW{rows:List (List D)}:∀(f:Nat)(c:List Int)(p cur:Int)(c':List Int)(s:Int)(v:Bool),goW rows f c p cur=some (c',s,v)->c'.length=c.length
 |0,_,_,_,_,_,_,h=>by cases h
 |f+1,c,p,cur,c',s,v,h=>by
  unfold goW at h
  split at h
  ·cases h
  ·split at h
   ·rw[QiW f _ _ _ _ _ _ h,UO]
   ·cases h;rw[UO]
@[simp] theorem Qot{g:G}{s t:Str}:pEq (.tup [.str s]) (.tup [.str t]) g=.ok (.bl (s == t)) g:=by simp[pEq,eqN,eqGs]
@[simp] theorem Qou{g:G}{s t u:Str}:pEq (.tup [.str s,.str u]) (.tup [.str t]) g=.ok (.bl false) g:=by simp[pEq,eqN,eqGs]
@[simp] theorem Qov{g:G}{s t u:Str}{i:Int}:pEq (.tup [.str s,.str u,.int i]) (.tup [.str t]) g=.ok (.bl false) g:=by simp[pEq,eqN,eqGs]
noncomputable def putO(st:Int)(b s:Bool)(L R:List D)(o:Option D):Option D:=o.map λd=>if s then .tup [.int st,.str (fc b),.tup L,d] else .tup [.int st,.str (fc b),d,.tup R]
theorem QiX{s:Bool}{o:Option D}(hL:∀t∈L,TkL m t)(hR:∀t∈R,TkL m t)(zL:L.length<=60)(zR:R.length<=60)(h:TLO o):SHO (putO st b s (L.map tkD) (R.map tkD) o):=λd hd=>by
 cases ho:o with
 |none=>rw[ho]at hd;cases hd
 |some e =>
  obtain⟨X,rfl,h1,h2⟩:=h e ho
  rw[ho]at hd
  cases s
  ·cases hd;exact QfM (st:=st) (b:=b) h2 (YN hR) (by omega) (by simp;omega)
  ·cases hd;exact QfM (st:=st) (b:=b) (YN hL) h2 (by simp;omega) (by omega)
theorem Qj2(hT:Tbl rows n m)(h0:0<=st)(h1:st<n)(hL:∀t∈L,TkL m t)(hR:∀t∈R,TkL m t)(zL:L.length<=60)(zR:R.length<=60)(mv:Mv):∃o:Option D,(∀g M,g[M]?=some (JF rows)->∃g',Keeps [] g g'/\Qt [.ref M,shD st b (L.map tkD) (R.map tkD),mvD mv] g=Pr o g')/\(∀g N t,tabOf N g t rows->∃g',Keeps [] g g'/\Y4 [.ref t,shD st b (L.map tkD) (R.map tkD),mvD mv] g=Lw o g')/\SHO o:=by
 cases mv with
 |step =>
  refine⟨QfI rows st b L R,λg M hM=>⟨g,.refl,?_⟩,λg N t ht=>⟨g,.refl,?_⟩,λd hd=>?_⟩
  ·have:=Qeg (b:=b) hM hT h0 h1 hL hR (by omega)
   cases ho:QfI rows st b L R <;> rw[ho]at this <;> simp[Pr,shD]at this <;> simp[Qt,QC,mvD,this,Pr,shD]
  ·have:=Qhd (b:=b) ht hT h0 h1 hL hR (by omega)
   simp only[Lw,shD]at this
   simp[Y4,Qat,mvD,this,Lw,shD]
  ·have hs:∀s,ste rows st b L R s=some d->pq 5 d=true:=λs h=>by
    unfold ste at h
    cases he:en rows st s with
    |none=>rw[he]at h;cases h
    |some e=>rw[he]at h;cases h;exact QiV hL hR zL zR rfl
   unfold QfI at hd
   split at hd
   ·exact hs _ hd
   ·exact hs _ hd
   ·cases hd
 |over =>
  refine⟨QfK rows st b L R,λg M hM=>?_,λg N t ht=>?_,λd hd=>?_⟩
  ·obtain⟨g',k,e⟩:=Qei (b:=b) hM hT h0 h1 hL hR (by omega)
   refine⟨g',k,?_⟩
   cases ho:QfK rows st b L R <;> rw[ho]at e <;> simp[Pr,shD]at e <;> simp[Qt,QC,mvD,e,Pr,shD,wds]
  ·obtain⟨g',k,e⟩:=QlN (b:=b) ht hT h0 h1 hL hR (by omega)
   refine⟨g',k,?_⟩
   simp only[Lw,shD]at e
   simp[Y4,Qat,mvD,e,Lw,shD,wds]
  ·unfold QfK at hd
   split at hd
   ·rename_i w k ha
    have ht:=Qax ha hL hR
    cases ho:goW rows 1000 w (ov0 b w) st with
    |none=>rw[ho]at hd;cases hd
    |some e =>
     obtain⟨c,s,v⟩:=e
     have hl:=QiW _ _ _ _ _ _ _ ho
     rw[ho]at hd
     unfold ovW at hd
     dsimp only at hd
     split at hd
     ·cases hd;exact QiV hL hR zL zR (Qbh (by have:=ht.2.2.2.1;omega))
     ·cases hd
   ·cases hd
 |opn =>
  refine⟨QfJ st b L R,λg M hM=>?_,λg N t ht=>?_,λd hd=>?_⟩
  ·obtain⟨g',k,e⟩:=Qeh (g:=g) (st:=st) (b:=b) hL hR (by omega)
   refine⟨g',k,?_⟩
   cases ho:QfJ st b L R <;> rw[ho]at e <;> simp[Pr,shD]at e <;> simp[Qt,QC,mvD,e,Pr,shD,wds]
  ·obtain⟨g',k,e⟩:=QiJ (g:=g) (st:=st) (b:=b) hL hR (by omega)
   refine⟨g',k,?_⟩
   simp only[Lw,shD]at e
   simp[Y4,Qat,mvD,e,Lw,shD,wds]
  ·unfold QfJ at hd
   split at hd
   ·rename_i w k ha
    have ht:=Qax ha hL hR
    have hw:(ones w).length<=20:=by unfold ones;rw[Ud];exact ht.2.2.2.1
    split at hd
    ·cases hd
    ·cases hd
     split
     ·refine QfM (YN hL) (λx hx=>?_) (by simp;omega) (by simp;omega)
      rcases Up.mp hx with z|z
      ·rcases Up.mp z with z|z
       ·exact QiO w x z
       ·rw[Ug.mp z];exact Qbh (by have:=ht.2.2.2.1;omega)
      ·exact YN hR x (Wo z)
     ·refine QfM (λx hx=>?_) (YN hR) (by simp;omega) (by simp;omega)
      rcases Up.mp hx with z|z
      ·exact YN hL x (Qb6 z)
      ·rcases Ui.mp z with rfl|z
       ·exact Qbh (by have:=ht.2.2.2.1;omega)
       ·exact QiO w x z
   ·cases hd
 |ends pad s =>
  obtain⟨o,e1,e2,e3⟩:=Qj1 (T:=if s then R else L) (m:=m) (by cases s;exact hL;exact hR) (by cases s;exact zL;exact zR) pad s
  refine⟨putO st b s (L.map tkD) (R.map tkD) o,λg M hM=>⟨g,.refl,?_⟩,λg N t ht=>?_,QiX hL hR zL zR e3⟩
  ·have e:=e1 g
   cases s <;> cases pad <;> cases o <;> simp[Pr,eS]at e <;> simp[Qt,QC,Qk,Qm,mvD,Pr,shD,wds,eS,e,putO]
  ·have k1:Keeps [] g (g++[.lst [.tup (R.map tkD),.tup (L.map tkD)]]):=.push _
   obtain⟨g',k,e⟩:=e2 (g++[.lst [.tup (R.map tkD),.tup (L.map tkD)]])
   refine⟨g',k1.trans k,?_⟩
   cases ho:o with
   |none=>subst ho;cases s <;> cases pad <;> simp[Lw,eS]at e <;> simp[Y4,Qat,mvD,Lw,shD,wds,eS,e,putO,isNon]
   |some d =>
    obtain⟨X,rfl,_⟩:=e3 d ho
    subst ho;cases s <;> cases pad <;> simp[Lw,eS]at e <;> simp[Y4,Qat,mvD,Lw,shD,wds,eS,e,putO,isNon]
 |many wd s a =>
  obtain⟨o,e1,e2,e3⟩:=QiU (T:=if s then R else L) (m:=m) (by cases s;exact hL;exact hR) (by cases s;exact zL;exact zR) wd s a
  refine⟨putO st b s (L.map tkD) (R.map tkD) o,λg M hM=>?_,λg N t ht=>?_,QiX hL hR zL zR e3⟩
  ·obtain⟨g',k,e⟩:=e1 g
   refine⟨g',k,?_⟩
   cases s <;> cases o <;> simp[Pr]at e <;> simp[Qt,QC,Qk,Qm,mvD,Pr,shD,e,putO]
  ·have k1:Keeps [] g (g++[.lst [.tup (R.map tkD),.tup (L.map tkD)]]):=.push _
   obtain⟨g',k,e⟩:=e2 (g++[.lst [.tup (R.map tkD),.tup (L.map tkD)]])
   refine⟨g',k1.trans k,?_⟩
   have w3:(wS wd == Str.ofString "step")=false/\(wS wd == Str.ofString "over")=false/\(wS wd == Str.ofString "open")=false:=by cases wd <;> simp[wS,wds]
   cases ho:o with
   |none=>subst ho;cases s <;> simp[Lw]at e <;> simp[Y4,Qat,mvD,Lw,shD,w3,e,putO,isNon]
   |some d =>
    obtain⟨X,rfl,_⟩:=e3 d ho
    subst ho;cases s <;> simp[Lw]at e <;> simp[Y4,Qat,mvD,Lw,shD,w3,e,putO,isNon]
end
theorem Zt{g:G}{l:Nat}{ds:List D}(h:g[l]?=some (.lst ds)):QK g (.ref l)=some (true,ds):=by unfold QK;dsimp only;rw[h]
theorem isX{n c:Nat}{g:G}(hc:c=7\/c=8)(h:g[n]?=some (.exc (c,none)))(cs:List Nat):Za [0,1,2,3,4,5,6,7,8,9,10] cs (.ref n) g=.ok (.bl (decide (c∈cs))) g:=by
 unfold Za
 dsimp only
 rw[h]
 dsimp only
 rw[Uh (by rcases hc with rfl|rfl <;> decide)]
theorem isX'{n c:Nat}{g:G}{y z:Option D}(hc:c=7\/c=8)(h:g[n]?=some (.exc (c,none)))(cs:List Nat):mOp1 (Za [0,1,2,3,4,5,6,7,8,9,10] cs) (mVar 0) [some (.ref n),y,z] g=.ok (.bl (decide (c∈cs))) g:=Z3 (x:=.ref n) (g1:=g) rfl (isX hc h cs)
theorem isF{n c k:Nat}{g:G}{y z:Option D}(hc:c=7\/c=8)(h:g[n]?=some (.exc (c,none)))(hk:c≠k:=by omega):mOp1 (Za [0,1,2,3,4,5,6,7,8,9,10] [k]) (mVar 0) [some (.ref n),y,z] g=.ok (.bl false) g:=by rw[isX' hc h,Uo (by simpa using hk)]
theorem QkK:(Str.ofString "move" == Str.ofString "shape")=false:=by decide +kernel
theorem QlV:(Str.ofString "shape" == Str.ofString "move")=false:=by decide +kernel
theorem QkL{n cl:Nat}{W:Str}{g:G}(hc:cl=7\/cl=8)(h:g[n]?=some (.exc (cl,none))):∃g',Qgy [.ref n,.str W] g=.ok (.bl ((decide (cl∈[7]) == (W == Str.ofString "shape")) && (decide (cl∈[8]) == (W == Str.ofString "move")))) g'/\Keeps [] g g':=by
 have k1:Keeps [] g (g++[.lst [.bl false,.bl false,.bl false]]):=.push _
 have p1:(g++[GO.lst [.bl false,.bl false,.bl false]])[g.length]?=some (.lst [.bl false,.bl false,.bl false]):=Qo _
 have e1:mOpA newL (Qa (mOp1 (Za [0,1,2,3,4,5,6,7,8,9,10] [1]) (mVar 0)) (Qa (mOp1 (Za [0,1,2,3,4,5,6,7,8,9,10] [2]) (mVar 0)) (Qa (mOp1 (Za [0,1,2,3,4,5,6,7,8,9,10] [3]) (mVar 0)) mNil))) [some (.ref n),some (.str W),none] g=.ok (.ref g.length) (g++[.lst [.bl false,.bl false,.bl false]]):=JK (Qx (isF hc h) (Qx (isF hc h) (Qx (isF hc h) rfl))) rfl
 generalize g.length=a at e1 p1
 generalize g++[GO.lst [.bl false,.bl false,.bl false]]=g1 at e1 p1 k1
 have h1:=k1.at' _ _ (by simp) h
 have k2:Keeps [] g1 (g1++[.lst [.bl false,.bl false,.bl false]]):=.push _
 have p2:(g1++[GO.lst [.bl false,.bl false,.bl false]])[g1.length]?=some (.lst [.bl false,.bl false,.bl false]):=Qo _
 have e2:mOpA newL (Qa (mOp1 (Za [0,1,2,3,4,5,6,7,8,9,10] [4]) (mVar 0)) (Qa (mOp1 (Za [0,1,2,3,4,5,6,7,8,9,10] [5]) (mVar 0)) (Qa (mOp1 (Za [0,1,2,3,4,5,6,7,8,9,10] [6]) (mVar 0)) mNil))) [some (.ref n),some (.str W),some (.ref a)] g1=.ok (.ref g1.length) (g1++[.lst [.bl false,.bl false,.bl false]]):=JK (Qx (isF hc h1) (Qx (isF hc h1) (Qx (isF hc h1) rfl))) rfl
 generalize g1.length=b at e2 p2
 generalize g1++[GO.lst [.bl false,.bl false,.bl false]]=g2 at e2 p2 k2
 have q2:=YT (k2.at' _ _ (by simp) p1) p2 (by simp)
 have k3:Keeps [] g2 (g2++[.lst ([.bl false,.bl false,.bl false]++[.bl false,.bl false,.bl false])]):=.push _
 have p3:(g2++[GO.lst ([.bl false,.bl false,.bl false]++[.bl false,.bl false,.bl false])])[g2.length]?=some (.lst ([.bl false,.bl false,.bl false]++[.bl false,.bl false,.bl false])):=Qo _
 generalize g2.length=c at q2 p3
 generalize g2++[GO.lst ([.bl false,.bl false,.bl false]++[.bl false,.bl false,.bl false])]=g3 at q2 p3 k3
 have h3:=k3.at' _ _ (by simp) (k2.at' _ _ (by simp) h1)
 have k4:Keeps [] g3 (g3++[.lst [.bl false,.bl false]]):=.push _
 have p4:(g3++[GO.lst [.bl false,.bl false]])[g3.length]?=some (.lst [.bl false,.bl false]):=Qo _
 have e4:mOpA newL (Qa (mOp1 (Za [0,1,2,3,4,5,6,7,8,9,10] [9]) (mVar 0)) (Qa (mOp1 (Za [0,1,2,3,4,5,6,7,8,9,10] [10]) (mVar 0)) mNil)) [some (.ref n),some (.str W),some (.ref c)] g3=.ok (.ref g3.length) (g3++[.lst [.bl false,.bl false]]):=JK (Qx (isF hc h3) (Qx (isF hc h3) rfl)) rfl
 generalize g3.length=d at e4 p4
 generalize g3++[GO.lst [.bl false,.bl false]]=g4 at e4 p4 k4
 have q4:=YT (k4.at' _ _ (by simp) p3) p4 (by simp)
 have k5:Keeps [] g4 (g4++[.lst ([.bl false,.bl false,.bl false]++[.bl false,.bl false,.bl false]++[.bl false,.bl false])]):=.push _
 have p5:(g4++[GO.lst ([.bl false,.bl false,.bl false]++[.bl false,.bl false,.bl false]++[.bl false,.bl false])])[g4.length]?=some (.lst ([.bl false,.bl false,.bl false]++[.bl false,.bl false,.bl false]++[.bl false,.bl false])):=Qo _
 generalize g4.length=e at q4 p5
 generalize g4++[GO.lst ([.bl false,.bl false,.bl false]++[.bl false,.bl false,.bl false]++[.bl false,.bl false])]=g5 at q4 p5 k5
 have h5:=k5.at' _ _ (by simp) (k4.at' _ _ (by simp) h3)
 have t1:Qj (mOp2 (pIn false) (mLit (.bl true)) (mVar 2)) [some (.ref n),some (.str W),some (.ref e)] g5=.ok false g5:=Zz (Qw (x:=.bl true) (y:=.ref e) (g1:=g5) (g2:=g5) rfl rfl (by unfold pIn;rw[Zt p5];rfl))
 have t2:Ys (Qj (mOp1 (Za [0,1,2,3,4,5,6,7,8,9,10] [0,1,2,3,4,5,6,7,8,9,10]) (mVar 0))) [some (.ref n),some (.str W),some (.ref e)] g5=.ok false g5:=Qe4 (Zz ((isX' hc h5 _).trans (by rw[Uy (by rcases hc with rfl|rfl <;> decide)])))
 have v1:mOp2 pEq (mOp1 (Za [0,1,2,3,4,5,6,7,8,9,10] [7]) (mVar 0)) (mOp2 pEq (mVar 1) (mLit (.str "shape"))) [some (.ref n),some (.str W),some (.ref e)] g5=.ok (.bl (decide (cl∈[7]) == (W == Str.ofString "shape"))) g5:=Qw (isX' hc h5 _) (Qw rfl rfl rfl) rfl
 have v2:mOp2 pEq (mOp1 (Za [0,1,2,3,4,5,6,7,8,9,10] [8]) (mVar 0)) (mOp2 pEq (mVar 1) (mLit (.str "move"))) [some (.ref n),some (.str W),some (.ref e)] g5=.ok (.bl (decide (cl∈[8]) == (W == Str.ofString "move"))) g5:=Qw (isX' hc h5 _) (Qw rfl rfl rfl) rfl
 refine⟨g5,ZR rfl ?_,k1.trans (k2.trans (k3.trans (k4.trans k5)))⟩
 show Qiw [some (.ref n),some (.str W),none] g=_
 unfold Qiw
 refine Ql [some (.ref n),some (.str W),some (.ref a)] g1 (ZG e1) ?_
 refine Ql [some (.ref n),some (.str W),some (.ref c)] g3 (ZG (Qw (x:=.ref a) (g1:=g1) rfl e2 q2)) ?_
 refine Ql [some (.ref n),some (.str W),some (.ref e)] g5 (ZG (Qw (x:=.ref c) (g1:=g3) rfl e4 q4)) ?_
 refine Ql _ g5 (iff' g5 (Qni t1 t2) rfl) (Yz ?_)
 generalize (decide (cl∈[7]) == (W == Str.ofString "shape"))=A at v1
 cases A
 ·exact Qe6 v1
 ·exact Qb5 v1 v2
def Bad(g:G)(x:D):Prop:=∀g1,Keeps [] g g1->∃g2,Keeps [] g1 g2/\ZY [x] g1=.raise (7,none) g2
theorem TokR.uniq{g:G}{d:D}(h1:TokR g d true)(h2:TokR g d false):False:=by
 obtain⟨a,e1,_⟩:=h1 g .refl
 obtain⟨b,e2,_⟩:=h2 g .refl
 rw[e1]at e2;cases e2
open Classical in
theorem QiY{st:Int}{f:Str}{L R:D}{g:G}{b b':Bool}{ds es:List D}(h0:0<=st)(hf:lrS f)(hL:QK g L=some (b,ds))(hR:QK g R=some (b',es))(hz:ds.length<=1000)(hz':es.length<=1000)(tL:∀d∈ds,TokR g d true\/TokR g d false)(tR:∀d∈es,TokR g d true\/TokR g d false)(hb:∃d,(d∈ds\/d∈es)/\TokR g d false):Bad g (.tup [.int st,.str f,L,R]):=λg1 k1=>by
 have ok:∀d,(TokR g d true\/TokR g d false)->TokR g1 d (decide (TokR g d true)):=λd h=>by
  rcases h with h|h
  ·rw[Uy h];exact h.mono k1
  ·rw[Uo λz=>z.uniq h];exact h.mono k1
 obtain⟨g2,k2,h⟩:=Qa3 (λd=>decide (TokR g d true)) h0 hf (QF hL k1) (QF hR k1) hz hz' (λd hd=>ok d (tL d hd)) (λd hd=>ok d (tR d hd))
 rcases h with⟨a1,a2,_⟩|⟨_,e⟩
 ·obtain⟨d,hd,hf⟩:=hb
  rcases hd with hd|hd
  ·exact absurd hf λz=>(U7 (Us.mp a1 d hd)).uniq z
  ·exact absurd hf λz=>(U7 (Us.mp a2 d hd)).uniq z
 ·exact⟨g2,k2,e⟩
theorem QkM{x f L R:D}{g:G}(h:∀g1,QB [x] g1=.ok (.bl false) g1):Bad g (.tup [x,f,L,R]):=λg1 _=>by
 refine⟨g1,.refl,YI (σ:=[some (.tup [x,f,L,R])]) rfl ?_⟩
 show Zc [some (.tup [x,f,L,R])] g1=_
 unfold Zc
 have t:Ys (Qj (Qr QB (Qa (mOp2 pIx (mVar 0) (mLit (.int 0))) mNil))) [some (.tup [x,f,L,R])] g1=.ok true g1:=by
  unfold Ys
  rw[Zz (b:=false) (g1:=g1) (by rw[Zo (ds:=[x]) (g':=g1) rfl];exact h g1)];rfl
 exact Ql [some (.tup [x,f,L,R])] g1 rfl (JI (ift g1 t rfl))
theorem Qj3{st:Int}{f L R:D}{g:G}(h0:0<=st)(hx:QbO f=true)(hl:eqF (.str "l") f=false)(hr:eqF (.str "r") f=false):Bad g (.tup [.int st,f,L,R]):=λg1 _=>by
 refine⟨g1,.refl,YI (σ:=[some (.tup [.int st,f,L,R])]) rfl ?_⟩
 show Zc [some (.tup [.int st,f,L,R])] g1=_
 unfold Zc
 have t2:Qj (Qr QB (Qa (mOp2 pIx (mVar 0) (mLit (.int 0))) mNil)) [some (.tup [.int st,f,L,R])] g1=.ok true g1:=Zz (by rw[Zo (ds:=[.int st]) (g':=g1) rfl,Qe5,Uy h0])
 have t3:=Qng (g:=g1) hx
 rw[hl,hr]at t3
 exact Ql [some (.tup [.int st,f,L,R])] g1 rfl (Ql [some (.tup [.int st,f,L,R])] g1 (iff' g1 (Qe4 t2) rfl) (JI (ift g1 (Zz (Qw (x:=f) (g1:=g1) (g2:=g1) rfl rfl t3)) rfl)))
theorem Qj4{st:Int}{f:Str}{R:D}{g:G}(h0:0<=st)(hf:lrS f):Bad g (.tup [.int st,.str f,.non,R]):=λg1 _=>by
 have c1:Qr Qz (Qa (mOp2 pIx (mVar 0) (mLit (.int 2))) mNil) [some (.tup [.int st,.str f,.non,R])] g1=Qz [.non] g1:=Zo rfl
 have e:Qz [.non] g1=.raise (7,none) g1:=rfl
 exact⟨g1,.refl,YI (σ:=[some (.tup [.int st,.str f,.non,R])]) rfl (JJ h0 (QiC hf g1) _ (JI (Qed (c1.trans e))))⟩
theorem QiZ{st:Int}{f:Str}{L:D}{g:G}{b:Bool}{ts:List Tk}{s:Str}(h0:0<=st)(hf:lrS f)(hL:QK g L=some (b,ts.map tkD))(ol:∀t∈ts,TkOk t)(zl:ts.length<=60):Bad g (.tup [.int st,.str f,L,.str s]):=λg1 k1=>by
 have c1:Qr Qz (Qa (mOp2 pIx (mVar 0) (mLit (.int 2))) mNil) [some (.tup [.int st,.str f,L,.str s])] g1=Qz [L] g1:=Zo rfl
 obtain⟨g2,k2,h⟩:=Y9 TkF (QF hL k1) (by rw[Ud];omega) (λd hd=>by
  obtain⟨t,ht,rfl⟩:=U9.mp hd
  exact Qcr (ol t ht) g1)
 rcases h with⟨_,e1⟩|⟨z,_⟩
 ·have c2:Qr Qz (Qa (mOp2 pIx (mVar 0) (mLit (.int 3))) mNil) [some (.tup [.int st,.str f,L,.str s])] g2=Qz [.str s] g2:=Zo rfl
  have e:Qz [.str s] g2=.raise (7,none) g2:=rfl
  exact⟨g2,k2,YI (σ:=[some (.tup [.int st,.str f,L,.str s])]) rfl (JJ h0 (QiC hf g1) _ (Ql _ g2 (Qbe (c1.trans e1)) (Qed (c2.trans e))))⟩
 ·rw[QfF]at z;cases z
theorem Qi0{x y z:D}{g:G}:Bad g (.tup [x,y,z]):=λg1 _=>⟨g1,.refl,rfl⟩
theorem Qj5{x y z u v:D}{g:G}:Bad g (.tup [x,y,z,u,v]):=λg1 _=>⟨g1,.refl,rfl⟩
theorem Qj6{g:G}:Bad g .non:=λg1 _=>⟨g1,.refl,rfl⟩
theorem Qct{n:Nat}{ds:List D}{g:G}(h:g[n]?=some (.lst ds)):ZS .tuple (.ref n) g=.ok (.bl false) g:=by
 unfold ZS tyOf
 dsimp only
 rw[h]
 rfl
theorem Qj7{n:Nat}{ds:List D}{g:G}(h:g[n]?=some (.lst ds)):Bad g (.ref n):=λg1 k=>by
 refine⟨g1,.refl,YI (σ:=[some (.ref n)]) rfl ?_⟩
 show Zc [some (.ref n)] g1=_
 unfold Zc
 refine JI (ift g1 ?_ rfl)
 unfold mOrT Ys
 rw[Zz (Z3 (x:=.ref n) (g1:=g1) rfl (Qct (k.at' _ _ (by simp) h)))]
 rfl
theorem Qow:(Str.ofString "two" == Str.ofString "one")=false:=by decide +kernel
theorem Qj8{n:Nat}{ds:List D}{g:G}(h:g[n]?=some (.lst ds)):TokR g (.ref n) false:=λg1 k=>by
 refine⟨g1,ZR rfl ?_,.refl⟩
 show YA [some (.ref n)] g1=_
 unfold YA
 refine Y8 (ift g1 ?_ rfl)
 unfold Ys
 rw[Zz (Z3 (x:=.ref n) (g1:=g1) rfl (Qct (k.at' _ _ (by simp) h)))]
 rfl
theorem Qj9{x:Str}{n:Nat}{ds:List D}{j:Int}{g:G}(h:g[n]?=some (.lst ds)):TokR g (.tup [.str x,.ref n,.int j]) false:=by
 have:=Qcq x (.ref n) j false g λg1 k=>⟨g1,ZR rfl (Yz (Qe6 (Z3 (x:=.ref n) (g1:=g1) rfl (Qct (k.at' _ _ (by simp) h))))),.refl⟩
 rw[T5,TL]at this
 exact this
noncomputable def odd7(p:Nat):List D:=[.tup [.str "one"],.tup [.str "one",.int (-1)],.tup [.str "many",.tup [],.int 0],.tup [.str "many",.tup [.int 0],.int (-1)],.tup [.str "many",.ref p,.int 0],.tup [.str "two",.int 0],.non]
noncomputable def odd8(p:Nat):List D:=[.tup [.str "many",.tup [.int 0]],.tup [.str "one",.str "0"],.tup [.str "many",.tup [.int 0,.int (-1)],.int 1],.ref p,.tup [],.str "one",.tup [.str "one",.int 0,.int 0],.int 5]
theorem QlW{p p':Nat}{xs ys:List D}{g:G}(h:g[p]?=some (.lst xs))(h':g[p']?=some (.lst ys)):∀d∈odd7 p++odd8 p',TokR g d false:=by
 have r:∀(d:D),(∀g1,Yl [d] g1=.ok (.bl false) g1)->TokR g d false:=λd h g1 _=>⟨g1,h g1,.refl⟩
 have w:∀(v:List Int)(j:Int),v.length<=1000->(((decide (v≠[]) && v.all λi=>decide (0<=i)) && decide (0<=j))=false)->TokR g (.tup [.str "many",.tup (v.map .int),.int j]) false:=λv j hv hb=>by
  have:=Qcq (Str.ofString "many") (.tup (v.map .int)) j _ g λg1 _=>QiB v g1 hv
  rw[hb,TL]at this
  exact this
 have o1:=QcO (Str.ofString "one") (.int (-1)) false g λ_=>rfl
 have o5:=QcO (Str.ofString "two") (.int 0) true g λ_=>rfl
 have o7:=QcO (Str.ofString "many") (.tup [.int 0]) false g λ_=>rfl
 have o8:=QcO (Str.ofString "one") (.str "0") false g λ_=>rfl
 have o13:=Qcq (Str.ofString "one") (.int 0) 0 false g λg1 _=>⟨g1,rfl,.refl⟩
 rw[TL]at o1 o7 o8
 rw[Qow,T5]at o5
 rw[T5,TL]at o13
 intro d hd
 rcases Up.mp hd with hd|hd
 ·rcases Ui.mp hd with rfl|hd
  ·exact r _ λ_=>rfl
  rcases Ui.mp hd with rfl|hd
  ·exact o1
  rcases Ui.mp hd with rfl|hd
  ·exact w [] 0 (by simp) rfl
  rcases Ui.mp hd with rfl|hd
  ·exact w [0] (-1) (by simp) rfl
  rcases Ui.mp hd with rfl|hd
  ·exact Qj9 h
  rcases Ui.mp hd with rfl|hd
  ·exact o5
  ·rw[Ug.mp hd];exact r _ λ_=>rfl
 ·rcases Ui.mp hd with rfl|hd
  ·exact o7
  rcases Ui.mp hd with rfl|hd
  ·exact o8
  rcases Ui.mp hd with rfl|hd
  ·exact w [0,-1] 1 (by simp) rfl
  rcases Ui.mp hd with rfl|hd
  ·exact Qj8 h'
  rcases Ui.mp hd with rfl|hd
  ·exact r _ λ_=>rfl
  rcases Ui.mp hd with rfl|hd
  ·exact r _ λ_=>rfl
  rcases Ui.mp hd with rfl|hd
  ·exact o13
  ·rw[Ug.mp hd];exact r _ λ_=>rfl
theorem QgG{g:G}{x:D}{b:Bool}{xs:List D}(h:QK g x=some (b,xs)):Qcb x g=.ok (.ref g.length) (g++[.lst xs]):=by
 cases x with
 |ref n =>
  unfold QK at h
  unfold Qcb
  dsimp only at h ⊢
  cases hg:g[n]? with
  |none=>rw[hg]at h;cases h
  |some o =>
   rw[hg]at h
   cases o with
   |lst ds=>cases h;rfl
   |_=>cases h
 |tup ds=>cases h;rfl
 |fl ds=>cases h;rfl
 |_=>cases h
theorem QlX{g:G}{x:D}{b:Bool}{xs:List D}(h:QK g x=some (b,xs))(lo hi:Option Int):∃y b' g1,Qbo x lo hi g=.ok y g1/\Keeps [] g g1/\QK g1 y=some (b',cutD xs lo hi):=by
 cases x with
 |ref n =>
  unfold QK at h
  dsimp only at h
  cases hg:g[n]? with
  |none=>rw[hg]at h;cases h
  |some o =>
   rw[hg]at h
   cases o with
   |lst ds =>
    cases h
    refine⟨.ref g.length,true,g++[.lst (cutD xs lo hi)],?_,.push _,Zt (Qo _)⟩
    unfold Qbo
    dsimp only
    rw[hg]
   |_=>cases h
 |tup ds=>cases h;exact⟨.tup (cutD xs lo hi),false,g,rfl,.refl,rfl⟩
 |fl ds=>cases h;exact⟨.ref g.length,true,g++[.lst (cutD xs lo hi)],rfl,.push _,Zt (Qo _)⟩
 |_=>cases h
theorem QgH{g:G}{x:D}{b:Bool}{xs:List D}{σ:S3}{i:Nat}{lo hi:MO}{l u:Option Int}(h:QK g x=some (b,xs))(hv:σ[i]?=some (some x))(hl:∀h,lo σ h=.ok l h)(hu:∀h,hi σ h=.ok u h):∃z g',mOp1 Qcb (QH (mVar i) lo hi) σ g=.ok (.ref z) g'/\Keeps [] g g'/\g'[z]?=some (.lst (cutD xs l u)):=by
 obtain⟨y,b',g1,e,k,s⟩:=QlX h l u
 refine⟨g1.length,g1++[.lst (cutD xs l u)],Z3 (x:=y) (g1:=g1) ?_ (QgG s),k.trans (.push _),Qo _⟩
 unfold QH
 rw[show mVar i σ g=.ok x g by unfold mVar;rw[hv],Res.bind_ok,hl,Res.bind_ok,hu,Res.bind_ok,e]
theorem pick{α:Type}{xs:List α}{i:Int}(h0:0<=i)(h1:i<xs.length):∃d,xs[i.toNat]?=some d/\d∈xs:=⟨xs[i.toNat]'(by omega),by simp,UR _⟩
theorem QdH(s:Str)(h:s=Str.ofString "" \/ s=Str.ofString "x" \/ s=Str.ofString "rl"):(Str.ofString "l" == s)=false/\(Str.ofString "r" == s)=false:=by
 rcases h with rfl|rfl|rfl <;> exact⟨by decide +kernel,by decide +kernel⟩
set_option maxHeartbeats 8000000 in
theorem QlY{st q:Int}{f:Str}{L R:D}{g:G}{b b':Bool}{tl tr:List Tk}(q0:0<=q)(h0:0<=st)(hf:lrS f)(hL:QK g L=some (b,tl.map tkD))(hR:QK g R=some (b',tr.map tkD))(ol:∀t∈tl,TkOk t)(or':∀t∈tr,TkOk t)(zl:tl.length<=40)(zr:tr.length<=40):
  ∃x g',Yw [.int q,.tup [.int st,.str f,L,R]] g=.ok x g'/\Keeps [] g g'/\Bad g' x:=by
 -- the fifteen
 have k1:Keeps [] g (g++[.lst [.int 0]]):=.push _
 have p1:(g++[GO.lst [.int 0]])[g.length]?=some (.lst [.int 0]):=Qo _
 have e1:mOpA newL (Qa (mOpA pTup (Qa (mLit (.str "one")) mNil)) (Qa (mOpA pTup (Qa (mLit (.str "one")) (Qa (mOp1 pNeg (mLit (.int 1))) mNil))) (Qa (mOpA pTup (Qa (mLit (.str "many")) (Qa (mOpA pTup mNil) (Qa (mLit (.int 0)) mNil)))) (Qa (mOpA pTup (Qa (mLit (.str "many")) (Qa (mOpA pTup (Qa (mLit (.int 0)) mNil)) (Qa (mOp1 pNeg (mLit (.int 1))) mNil)))) (Qa (mOpA pTup (Qa (mLit (.str "many")) (Qa (mOpA newL (Qa (mLit (.int 0)) mNil)) (Qa (mLit (.int 0)) mNil)))) (Qa (mOpA pTup (Qa (mLit (.str "two")) (Qa (mLit (.int 0)) mNil))) (Qa (mLit .non) mNil))))))) [some (.int q),some (.tup [.int st,.str f,L,R]),some (.int st),some (.str f),some L,some R,none,none,none] g=.ok (.ref (g++[GO.lst [.int 0]]).length) ((g++[.lst [.int 0]])++[.lst (odd7 g.length)]):=rfl
 generalize g.length=a at e1 p1
 generalize g++[GO.lst [.int 0]]=g1 at e1 p1 k1
 have k2:Keeps [] g1 (g1++[.lst (odd7 a)]):=.push _
 have p2:(g1++[GO.lst (odd7 a)])[g1.length]?=some (.lst (odd7 a)):=Qo _
 generalize g1.length=n7 at e1 p2
 generalize g1++[GO.lst (odd7 a)]=g2 at e1 p2 k2
 have k3:Keeps [] g2 (g2++[.lst [.str "one",.int 0]]):=.push _
 have p3:(g2++[GO.lst [.str "one",.int 0]])[g2.length]?=some (.lst [.str "one",.int 0]):=Qo _
 have e3:mOpA newL (Qa (mOpA pTup (Qa (mLit (.str "many")) (Qa (mOpA pTup (Qa (mLit (.int 0)) mNil)) mNil))) (Qa (mOpA pTup (Qa (mLit (.str "one")) (Qa (mLit (.str "0")) mNil))) (Qa (mOpA pTup (Qa (mLit (.str "many")) (Qa (mOpA pTup (Qa (mLit (.int 0)) (Qa (mOp1 pNeg (mLit (.int 1))) mNil))) (Qa (mLit (.int 1)) mNil)))) (Qa (mOpA newL (Qa (mLit (.str "one")) (Qa (mLit (.int 0)) mNil))) (Qa (mOpA pTup mNil) (Qa (mLit (.str "one")) (Qa (mOpA pTup (Qa (mLit (.str "one")) (Qa (mLit (.int 0)) (Qa (mLit (.int 0)) mNil)))) (Qa (mLit (.int 5)) mNil)))))))) [some (.int q),some (.tup [.int st,.str f,L,R]),some (.int st),some (.str f),some L,some R,some (.ref n7),none,none] g2=.ok (.ref (g2++[GO.lst [.str "one",.int 0]]).length) ((g2++[.lst [.str "one",.int 0]])++[.lst (odd8 g2.length)]):=rfl
 generalize g2.length=c at e3 p3
 generalize g2++[GO.lst [.str "one",.int 0]]=g3 at e3 p3 k3
 have k4:Keeps [] g3 (g3++[.lst (odd8 c)]):=.push _
 have p4:(g3++[GO.lst (odd8 c)])[g3.length]?=some (.lst (odd8 c)):=Qo _
 generalize g3.length=n8 at e3 p4
 generalize g3++[GO.lst (odd8 c)]=g4 at e3 p4 k4
 have q4:=YT (k4.at' _ _ (by simp) (k3.at' _ _ (by simp) p2)) p4 (by show 7+8<=100000;decide)
 have k5:Keeps [] g4 (g4++[.lst (odd7 a++odd8 c)]):=.push _
 have p5:(g4++[GO.lst (odd7 a++odd8 c)])[g4.length]?=some (.lst (odd7 a++odd8 c)):=Qo _
 generalize g4.length=n15 at q4 p5
 generalize g4++[GO.lst (odd7 a++odd8 c)]=g5 at q4 p5 k5
 have kk:Keeps [] g g5:=k1.trans (k2.trans (k3.trans (k4.trans k5)))
 have oall:=QlW (k5.at' _ _ (by simp) (k4.at' _ _ (by simp) (k3.at' _ _ (by simp) (k2.at' _ _ (by simp) p1)))) (k5.at' _ _ (by simp) (k4.at' _ _ (by simp) p3))
 have hL5:=QF hL kk
 have hR5:=QF hR kk
 clear k1 k2 k3 k4 k5 p1 p2 p3 p4
 obtain⟨tk,tk1,tk2⟩:=pick (xs:=odd7 a++odd8 c) (i:=q/9%15) (UD _ (by decide)) (by show q/9%15<((15:Nat):Int);omega)
 have tkF:=oall tk tk2
 have e6:mOp2 pIx (mVar 6) (mOp2 pMod (mOp2 QR (mVar 0) (mLit (.int 9))) (mLit (.int 15))) [some (.int q),some (.tup [.int st,.str f,L,R]),some (.int st),some (.str f),some L,some R,some (.ref n15),none,none] g5=.ok tk g5:=Qw (x:=.ref n15) (y:=.int (q/9%15)) (g1:=g5) (g2:=g5) rfl (Qw (g1:=g5) (g2:=g5) (Qw (g1:=g5) (g2:=g5) rfl rfl (divP (by decide) (by decide))) rfl (modP (by decide))) (Qab p5 (UD _ (by decide)) tk1)
 have e7:mOp2 pMod (mOp2 QR (mVar 0) (mLit (.int 135))) (mOp2 pAdd (mOp1 pLen (mVar 4)) (mLit (.int 1))) [some (.int q),some (.tup [.int st,.str f,L,R]),some (.int st),some (.str f),some L,some R,some (.ref n15),some tk,none] g5=.ok (.int (q/135 % ((tl.length:Int)+1))) g5:=Qw (x:=.int (q/135)) (y:=.int ((tl.length:Int)+1)) (g1:=g5) (g2:=g5) (Qw (g1:=g5) (g2:=g5) rfl rfl (divP (by decide) (by decide))) (Qw (x:=.int tl.length) (y:=.int 1) (g1:=g5) (g2:=g5) (Z3 (x:=L) (g1:=g5) rfl (by rw[QfH hL5,Ud])) rfl rfl) (modP (by omega))
 generalize hsp:q/135 % ((tl.length:Int)+1)=sp at e7
 have hq:mOp2 pMod (mVar 0) (mLit (.int 9)) [some (.int q),some (.tup [.int st,.str f,L,R]),some (.int st),some (.str f),some L,some R,some (.ref n15),some tk,some (.int sp)] g5=.ok (.int (q%9)) g5:=Qw rfl rfl (modP (by decide))
 have hq4:∀h,mOp2 pMod (mOp2 QR (mVar 0) (mLit (.int 9))) (mLit (.int 4)) [some (.int q),some (.tup [.int st,.str f,L,R]),some (.int st),some (.str f),some L,some R,some (.ref n15),some tk,some (.int sp)] h=.ok (.int (q/9%4)) h:=λh=>Qw (g1:=h) (g2:=h) (Qw (g1:=h) (g2:=h) rfl rfl (divP (by decide) (by decide))) rfl (modP (by decide))
 have tst:∀v:Int,Qj (mOp2 pEq (mOp2 pMod (mVar 0) (mLit (.int 9))) (mLit (.int v))) [some (.int q),some (.tup [.int st,.str f,L,R]),some (.int st),some (.str f),some L,some R,some (.ref n15),some tk,some (.int sp)] g5=.ok (q%9 == v) g5:=λv=>Zz (Qw hq rfl rfl)
 have tt:∀{v:Int}{A:MS}{Q:Out},q%9=v->A [some (.int q),some (.tup [.int st,.str f,L,R]),some (.int st),some (.str f),some L,some R,some (.ref n15),some tk,some (.int sp)] g5=Q->mIf (Qj (mOp2 pEq (mOp2 pMod (mVar 0) (mLit (.int 9))) (mLit (.int v)))) A QA [some (.int q),some (.tup [.int st,.str f,L,R]),some (.int st),some (.str f),some L,some R,some (.ref n15),some tk,some (.int sp)] g5=Q:=λ{v A Q} hv hA=>by
  have:=tst v
  rw[hv,Tn]at this
  exact ift g5 this hA
 have ff:∀{v:Int}{A:MS},q%9≠v->mIf (Qj (mOp2 pEq (mOp2 pMod (mVar 0) (mLit (.int 9))) (mLit (.int v)))) A QA [some (.int q),some (.tup [.int st,.str f,L,R]),some (.int st),some (.str f),some L,some R,some (.ref n15),some tk,some (.int sp)] g5=.nx [some (.int q),some (.tup [.int st,.str f,L,R]),some (.int st),some (.str f),some L,some R,some (.ref n15),some tk,some (.int sp)] g5:=λ{v A} hv=>by
  have:=tst v
  rw[beq_false_of_ne hv]at this
  exact iff' g5 this rfl
 have fin:∀(x:D)(g':G),Keeps [] g5 g'->Bad g' x->(∀T,T=Qby->T [some (.int q),some (.tup [.int st,.str f,L,R]),none,none,none,none,none,none,none] g=.rt x g')->∃x g',Yw [.int q,.tup [.int st,.str f,L,R]] g=.ok x g'/\Keeps [] g g'/\Bad g' x:=λx g' k hb he=>⟨x,g',ZR rfl (he _ rfl),kk.trans k,hb⟩
 have head:∀{T:MS}{Q:Out},T [some (.int q),some (.tup [.int st,.str f,L,R]),some (.int st),some (.str f),some L,some R,some (.ref n15),some tk,some (.int sp)] g5=Q->mSeq (mAsg (JO [(gSet 2),(gSet 3),(gSet 4),(gSet 5)]) (mVar 1)) (mSeq (mAsg (gSet 6) (mOpA newL (Qa (mOpA pTup (Qa (mLit (.str "one")) mNil)) (Qa (mOpA pTup (Qa (mLit (.str "one")) (Qa (mOp1 pNeg (mLit (.int 1))) mNil))) (Qa (mOpA pTup (Qa (mLit (.str "many")) (Qa (mOpA pTup mNil) (Qa (mLit (.int 0)) mNil)))) (Qa (mOpA pTup (Qa (mLit (.str "many")) (Qa (mOpA pTup (Qa (mLit (.int 0)) mNil)) (Qa (mOp1 pNeg (mLit (.int 1))) mNil)))) (Qa (mOpA pTup (Qa (mLit (.str "many")) (Qa (mOpA newL (Qa (mLit (.int 0)) mNil)) (Qa (mLit (.int 0)) mNil)))) (Qa (mOpA pTup (Qa (mLit (.str "two")) (Qa (mLit (.int 0)) mNil))) (Qa (mLit .non) mNil)))))))))
   (mSeq (mAsg (gSet 6) (mOp2 pAdd (mVar 6) (mOpA newL (Qa (mOpA pTup (Qa (mLit (.str "many")) (Qa (mOpA pTup (Qa (mLit (.int 0)) mNil)) mNil))) (Qa (mOpA pTup (Qa (mLit (.str "one")) (Qa (mLit (.str "0")) mNil))) (Qa (mOpA pTup (Qa (mLit (.str "many")) (Qa (mOpA pTup (Qa (mLit (.int 0)) (Qa (mOp1 pNeg (mLit (.int 1))) mNil))) (Qa (mLit (.int 1)) mNil)))) (Qa (mOpA newL (Qa (mLit (.str "one")) (Qa (mLit (.int 0)) mNil))) (Qa (mOpA pTup mNil) (Qa (mLit (.str "one")) (Qa (mOpA pTup (Qa (mLit (.str "one")) (Qa (mLit (.int 0)) (Qa (mLit (.int 0)) mNil)))) (Qa (mLit (.int 5)) mNil)))))))))))
   (mSeq (mAsg (gSet 7) (mOp2 pIx (mVar 6) (mOp2 pMod (mOp2 QR (mVar 0) (mLit (.int 9))) (mLit (.int 15)))))
   (mSeq (mAsg (gSet 8) (mOp2 pMod (mOp2 QR (mVar 0) (mLit (.int 135))) (mOp2 pAdd (mOp1 pLen (mVar 4)) (mLit (.int 1))))) T)))) [some (.int q),some (.tup [.int st,.str f,L,R]),none,none,none,none,none,none,none] g=Q:=λ{T Q} hT =>
  Ql [some (.int q),some (.tup [.int st,.str f,L,R]),some (.int st),some (.str f),some L,some R,none,none,none] g rfl (Ql [some (.int q),some (.tup [.int st,.str f,L,R]),some (.int st),some (.str f),some L,some R,some (.ref n7),none,none] g2 (ZG e1) (Ql [some (.int q),some (.tup [.int st,.str f,L,R]),some (.int st),some (.str f),some L,some R,some (.ref n15),none,none] g5 (ZG (Qw (x:=.ref n7) (g1:=g2) rfl e3 q4)) (Ql [some (.int q),some (.tup [.int st,.str f,L,R]),some (.int st),some (.str f),some L,some R,some (.ref n15),some tk,none] g5 (ZG e6) (Ql _ g5 (ZG e7) hT))))
 have gl:∀{ts:List Tk},(∀t∈ts,TkOk t)->∀{g':G}(d:D),d∈ts.map tkD->TokR g' d true:=by
  intro ts h g' d hd
  obtain⟨t,ht,rfl⟩:=U9.mp hd
  exact Qcr (h t ht) g'
 by_cases c0:q%9=0
 ·exact fin (.tup [.int (-1),.str f,L,R]) g5 .refl (QkM λ_=>rfl) λT hT=>by subst hT;exact head (Y8 (tt c0 rfl))
 by_cases c1:q%9=1
 ·have kn:Keeps [] g5 (g5++[.lst [.str "",.str "x",.str "rl",.non]]):=.push _
  have pn:(g5++[GO.lst [.str "",.str "x",.str "rl",.non]])[g5.length]?=some (.lst [.str "",.str "x",.str "rl",.non]):=Qo _
  obtain⟨d,d1,d2⟩:=pick (xs:=[D.str "",.str "x",.str "rl",.non]) (i:=q/9%4) (UD _ (by decide)) (by show q/9%4<((4:Nat):Int);omega)
  have hb:QbO d=true/\eqF (.str "l") d=false/\eqF (.str "r") d=false:=by
   rcases Ui.mp d2 with rfl|d2
   ·exact⟨rfl,(QdH _ (.inl rfl)).1,(QdH _ (.inl rfl)).2⟩
   rcases Ui.mp d2 with rfl|d2
   ·exact⟨rfl,(QdH _ (.inr (.inl rfl))).1,(QdH _ (.inr (.inl rfl))).2⟩
   rcases Ui.mp d2 with rfl|d2
   ·exact⟨rfl,(QdH _ (.inr (.inr rfl))).1,(QdH _ (.inr (.inr rfl))).2⟩
   ·rw[Ug.mp d2];exact⟨rfl,rfl,rfl⟩
  exact fin (.tup [.int st,d,L,R]) _ kn (Qj3 h0 hb.1 hb.2.1 hb.2.2) λT hT=>by
   subst hT
   exact head (Ql _ g5 (ff c0) (Y8 (tt c1 (Yz (JK (Qx (g1:=g5) rfl (Qx (Qw (x:=.ref g5.length) rfl (hq4 _) (Qab pn (UD _ (by decide)) d1)) rfl)) rfl)))))
 by_cases c2:q%9=2
 ·exact fin (.tup [.int st,.str f,.non,R]) g5 .refl (Qj4 h0 hf) λT hT=>by subst hT;exact head (Ql _ g5 (ff c0) (Ql _ g5 (ff c1) (Y8 (tt c2 rfl))))
 by_cases c3:q%9=3
 ·have ka:Keeps [] g5 (g5++[.lst [.int st,.str f,L,R]]):=.push _
  have pa:(g5++[GO.lst [.int st,.str f,L,R]])[g5.length]?=some (.lst [.int st,.str f,L,R]):=Qo _
  have en:mOpA newL (Qa (mOpA pTup (Qa (mVar 2) (Qa (mVar 3) (Qa (mVar 4) mNil)))) (Qa (mOpA newL (Qa (mVar 2) (Qa (mVar 3) (Qa (mVar 4) (Qa (mVar 5) mNil))))) (Qa (mLit .non) (Qa (mOpA pTup (Qa (mVar 2) (Qa (mVar 3) (Qa (mVar 4) (Qa (mVar 5) (Qa (mLit (.int 0)) mNil)))))) mNil)))) [some (.int q),some (.tup [.int st,.str f,L,R]),some (.int st),some (.str f),some L,some R,some (.ref n15),some tk,some (.int sp)] g5=.ok (.ref (g5++[GO.lst [.int st,.str f,L,R]]).length) ((g5++[GO.lst [.int st,.str f,L,R]])++[.lst [.tup [.int st,.str f,L],.ref g5.length,.non,.tup [.int st,.str f,L,R,.int 0]]]):=rfl
  generalize g5.length=m at en pa
  generalize g5++[GO.lst [.int st,.str f,L,R]]=g6 at en pa ka
  have kn:Keeps [] g6 (g6++[.lst [.tup [.int st,.str f,L],.ref m,.non,.tup [.int st,.str f,L,R,.int 0]]]):=.push _
  have pn:(g6++[GO.lst [.tup [.int st,.str f,L],.ref m,.non,.tup [.int st,.str f,L,R,.int 0]]])[g6.length]?=some (.lst [.tup [.int st,.str f,L],.ref m,.non,.tup [.int st,.str f,L,R,.int 0]]):=Qo _
  generalize g6.length=m' at en pn
  generalize g6++[GO.lst [.tup [.int st,.str f,L],.ref m,.non,.tup [.int st,.str f,L,R,.int 0]]]=g7 at en pn kn
  obtain⟨d,d1,d2⟩:=pick (xs:=[D.tup [.int st,.str f,L],.ref m,.non,.tup [.int st,.str f,L,R,.int 0]]) (i:=q/9%4) (UD _ (by decide)) (by show q/9%4<((4:Nat):Int);omega)
  have hb:Bad g7 d:=by
   rcases Ui.mp d2 with rfl|d2
   ·exact Qi0
   rcases Ui.mp d2 with rfl|d2
   ·exact Qj7 (kn.at' _ _ (by simp) pa)
   rcases Ui.mp d2 with rfl|d2
   ·exact Qj6
   ·rw[Ug.mp d2];exact Qj5
  exact fin d g7 (ka.trans kn) hb λT hT=>by
   subst hT
   exact head (Ql _ g5 (ff c0) (Ql _ g5 (ff c1) (Ql _ g5 (ff c2) (Y8 (tt c3 (Yz (Qw en (hq4 _) (Qab pn (UD _ (by decide)) d1))))))))
 by_cases c4:q%9=4
 ·exact fin (.tup [.int st,.str f,L,.str "one"]) g5 .refl (QiZ h0 hf hL5 ol (by omega)) λT hT=>by subst hT;exact head (Ql _ g5 (ff c0) (Ql _ g5 (ff c1) (Ql _ g5 (ff c2) (Ql _ g5 (ff c3) (Y8 (tt c4 rfl))))))
 by_cases c5:q%9=5
 ·exact fin (.tup [.non,.str f,L,R]) g5 .refl (QkM λ_=>rfl) λT hT=>by subst hT;exact head (Ql _ g5 (ff c0) (Ql _ g5 (ff c1) (Ql _ g5 (ff c2) (Ql _ g5 (ff c3) (Ql _ g5 (ff c4) (Y8 (tt c5 rfl)))))))
 by_cases c6:q%9=6
 ·have ka:Keeps [] g5 (g5++[.lst (tr.map tkD)]):=.push _
  have pa:(g5++[GO.lst (tr.map tkD)])[g5.length]?=some (.lst (tr.map tkD)):=Qo _
  have ea:=QgG hR5
  generalize g5.length=m at ea pa
  generalize g5++[GO.lst (tr.map tkD)]=g6 at ea pa ka
  have kb:Keeps [] g6 (g6++[.lst [tk]]):=.push _
  have pb:(g6++[GO.lst [tk]])[g6.length]?=some (.lst [tk]):=Qo _
  have eb:mOpA newL (Qa (mVar 7) mNil) [some (.int q),some (.tup [.int st,.str f,L,R]),some (.int st),some (.str f),some L,some R,some (.ref n15),some tk,some (.int sp)] g6=.ok (.ref g6.length) (g6++[.lst [tk]]):=rfl
  generalize g6.length=m' at eb pb
  generalize g6++[GO.lst [tk]]=g7 at eb pb kb
  have ec:=YT (kb.at' _ _ (by simp) pa) pb (by rw[Ud];simp;omega)
  have kc:Keeps [] g7 (g7++[.lst (tr.map tkD++[tk])]):=.push _
  have pc:(g7++[GO.lst (tr.map tkD++[tk])])[g7.length]?=some (.lst (tr.map tkD++[tk])):=Qo _
  generalize g7.length=m'' at ec pc
  generalize g7++[GO.lst (tr.map tkD++[tk])]=g8 at ec pc kc
  have k58:=ka.trans (kb.trans kc)
  refine fin (.tup [.int st,.str f,L,.ref m'']) g8 k58 (QiY h0 hf (QF hL5 k58) (Zt pc) (by rw[Ud];omega) (by simp;omega) (λd hd=>.inl (gl ol d hd)) (λd hd=>?_) ⟨tk,.inr (by simp),tkF.mono k58⟩) λT hT=>?_
  ·rcases Up.mp hd with z|z
   ·exact .inl (gl or' d z)
   ·rw[Ug.mp z];exact .inr (tkF.mono k58)
  ·subst hT
   exact head (Ql _ g5 (ff c0) (Ql _ g5 (ff c1) (Ql _ g5 (ff c2) (Ql _ g5 (ff c3) (Ql _ g5 (ff c4) (Ql _ g5 (ff c5) (Y8 (tt c6 (Yz (JK (Qx (g1:=g5) rfl (Qx (g1:=g5) rfl (Qx (g1:=g5) rfl (Qx (Qw (Z3 (x:=R) (g1:=g5) rfl ea) eb ec) rfl)))) rfl))))))))))
 ·obtain⟨z1,g6,e8,k6,r1⟩:=QgH (σ:=[some (.int q),some (.tup [.int st,.str f,L,R]),some (.int st),some (.str f),some L,some R,some (.ref n15),some tk,some (.int sp)]) (i:=4) (lo:=Qy) (hi:=Q0 (mVar 8)) (l:=none) (u:=some sp) hL5 rfl (λ_=>rfl) (λ_=>rfl)
  have kb:Keeps [] g6 (g6++[.lst [tk]]):=.push _
  have pb:(g6++[GO.lst [tk]])[g6.length]?=some (.lst [tk]):=Qo _
  have eb:mOpA newL (Qa (mVar 7) mNil) [some (.int q),some (.tup [.int st,.str f,L,R]),some (.int st),some (.str f),some L,some R,some (.ref n15),some tk,some (.int sp)] g6=.ok (.ref g6.length) (g6++[.lst [tk]]):=rfl
  generalize g6.length=m' at eb pb
  generalize g6++[GO.lst [tk]]=g7 at eb pb kb
  have u1:=JW (xs:=tl.map tkD) (lo:=none) (hi:=some sp)
  have u2:=JW (xs:=tl.map tkD) (lo:=some sp) (hi:=none)
  have m1:=QaT (xs:=tl.map tkD) (lo:=none) (hi:=some sp)
  have m2:=QaT (xs:=tl.map tkD) (lo:=some sp) (hi:=none)
  rw[Ud]at u1 u2
  have ec:=YT (kb.at' _ _ (by simp) r1) pb (by simp;omega)
  have kc:Keeps [] g7 (g7++[.lst (cutD (tl.map tkD) none (some sp)++[tk])]):=.push _
  have pc:(g7++[GO.lst (cutD (tl.map tkD) none (some sp)++[tk])])[g7.length]?=some (.lst (cutD (tl.map tkD) none (some sp)++[tk])):=Qo _
  generalize g7.length=m'' at ec pc
  generalize g7++[GO.lst (cutD (tl.map tkD) none (some sp)++[tk])]=g8 at ec pc kc
  have k58:=k6.trans (kb.trans kc)
  obtain⟨z2,g9,e9,k9,r2⟩:=QgH (σ:=[some (.int q),some (.tup [.int st,.str f,L,R]),some (.int st),some (.str f),some L,some R,some (.ref n15),some tk,some (.int sp)]) (i:=4) (lo:=Q0 (mVar 8)) (hi:=Qy) (l:=some sp) (u:=none) (QF hL5 k58) rfl (λ_=>rfl) (λ_=>rfl)
  have ed:=YT (k9.at' _ _ (by simp) pc) r2 (by simp;omega)
  have kd:Keeps [] g9 (g9++[.lst (cutD (tl.map tkD) none (some sp)++[tk]++cutD (tl.map tkD) (some sp) none)]):=.push _
  have pd:(g9++[GO.lst (cutD (tl.map tkD) none (some sp)++[tk]++cutD (tl.map tkD) (some sp) none)])[g9.length]?=some (.lst (cutD (tl.map tkD) none (some sp)++[tk]++cutD (tl.map tkD) (some sp) none)):=Qo _
  generalize g9.length=m3 at ed pd
  generalize g9++[GO.lst (cutD (tl.map tkD) none (some sp)++[tk]++cutD (tl.map tkD) (some sp) none)]=g10 at ed pd kd
  have k510:=k58.trans (k9.trans kd)
  refine fin (.tup [.int st,.str f,.ref m3,R]) g10 k510 (QiY h0 hf (Zt pd) (QF hR5 k510) (by simp;omega) (by rw[Ud];omega) (λd hd=>?_) (λd hd=>.inl (gl or' d hd)) ⟨tk,.inl (by simp),tkF.mono k510⟩) λT hT=>?_
  ·rcases Up.mp hd with z|z
   ·rcases Up.mp z with z|z
    ·exact .inl (gl ol d (m1 d z))
    ·rw[Ug.mp z];exact .inr (tkF.mono k510)
   ·exact .inl (gl ol d (m2 d z))
  ·subst hT
   exact head (Ql _ g5 (ff c0) (Ql _ g5 (ff c1) (Ql _ g5 (ff c2) (Ql _ g5 (ff c3) (Ql _ g5 (ff c4) (Ql _ g5 (ff c5) (Ql _ g5 (ff c6) (Yz (JK (Qx (g1:=g5) rfl (Qx (g1:=g5) rfl (Qx (Qw (Qw e8 eb ec) e9 ed) (Qx rfl rfl)))) rfl)))))))))
noncomputable def inS(m:Nat):Tk->Bool
 |.one s=>decide (s<m)
 |.many w _=>w.all λx=>decide (x<m)
theorem QgI:∀w:List Int,QdS (w.map .int)=some w
 |[]=>rfl
 |i::r=>by show(QdS (r.map .int)).map (i :: ·)=_;rw[QgI r];rfl
theorem Qi1:∀{w:List Int},w≠[]->∃M,maxZ w=some M
 |[],h=>absurd rfl h
 |i::r,_=>by unfold maxZ;cases maxZ r <;> exact⟨_,rfl⟩
section
variable{rows:List (List D)}{n m:Nat}{g:G}
theorem Qi2{t:Tk}(h:TkOk t):∃M:Int,(∀(x0 x1 x2 x3:Option D)(g:G),mOp1 QfB (Qr YY (Qa (mVar 4) mNil)) [x0,x1,x2,x3,some (tkD t)] g=.ok (.int M) g)/\(inS m t=decide (M<m)):=by
 cases t with
 |one s=>exact⟨s,λx0 x1 x2 x3 g=>by simp[YY,QbS,tkD,QfB,QdS,maxZ],rfl⟩
 |many w k =>
  obtain⟨M,hM⟩:=Qi1 h.1
  obtain⟨q1,q2⟩:=Qd4 hM
  refine⟨M,λx0 x1 x2 x3 g=>by simp[YY,QbS,tkD,QfB,QgI,hM],?_⟩
  by_cases hm:M<m
  ·rw[Uy hm];exact Us.mpr λx hx=>Uy (by have:=q2 x hx;omega)
  ·rw[Uo hm];exact List.all_eq_false.mpr ⟨M,q1,by simpa using hm⟩
theorem Qka{t:Tk}(h:TkOk t)(x0 x1 x3:Option D):Zm [x0,x1,some (.int m),x3,some (tkD t)] g=if inS m t=true then .nx [x0,x1,some (.int m),x3,some (tkD t)] g else .raise (7,none) [x0,x1,some (.int m),x3,some (tkD t)] g:=by
 obtain⟨M,e,q⟩:=Qi2 (m:=m) h
 have e':=e x0 x1 (some (.int m)) x3 g
 unfold Zm
 rw[q]
 generalize mOp1 QfB (Qr YY (Qa (mVar 4) mNil))=Q at e'
 by_cases hm:M<m
 ·have:¬((m:Int)<=M):=by omega
  simp[e',hm,this]
 ·have:(m:Int)<=M:=by omega
  simp[e',hm,this]
theorem QgJ{xs:D}{c:Bool}{T:List Tk}(hs:QK g xs=some (c,T.map tkD))(hT:∀t∈T,TkOk t)(x0 x1 x4:Option D):∃y,Zn [x0,x1,some (.int m),some xs,x4] g=if T.all (inS m)=true then .nx [x0,x1,some (.int m),some xs,y] g else .raise (7,none) [x0,x1,some (.int m),some xs,y] g:=by
 obtain⟨src,s1,s2,s3⟩:=QdB hs
 rw[Ud]at s2
 have e0:Zn [x0,x1,some (.int m),some xs,x4] g=forL src (gSet 4) Zm (src.top+1) 0 [x0,x1,some (.int m),some xs,x4] g:=QbD (by unfold QX;rw[show mVar 3 [x0,x1,some (.int m),some xs,x4] g=.ok xs g from rfl,Res.bind_ok];exact s1)
 have:=QaR (src:=src) (t:=gSet 4) (body:=Zm) (n:=T.length) (λi σ g'=>g'=g/\(∃y,σ=[x0,x1,some (.int m),some xs,y])/\(T.take i).all (inS m)=true) (λo=>∃y,o=.raise (7,none) [x0,x1,some (.int m),some xs,y] g/\T.all (inS m)=false) (λi σ g' hi hQ=>by
  obtain⟨rfl,⟨y,rfl⟩,q⟩:=hQ
  refine⟨tkD T[i],[x0,x1,some (.int m),some xs,some (tkD T[i])],by rw[s3 _ _ hs];simp[hi],rfl,?_⟩
  rw[Qka (hT _ (UR hi))]
  by_cases hb:inS m T[i]=true
  ·rw[Uh hb]
   exact .inl ⟨_,_,.inl rfl,rfl,⟨_,rfl⟩,by rw[UT hi,List.all_append,q];simp[hb]⟩
  ·rw[Um hb]
   exact .inr ⟨trivial,_,rfl,List.all_eq_false.mpr ⟨T[i],UR hi,hb⟩⟩) (λσ g' hQ=>by rw[hQ.1,s3 _ _ hs];simp) (src.top+1) 0 [x0,x1,some (.int m),some xs,x4] g (by omega) (by omega) ⟨rfl,⟨_,rfl⟩,rfl⟩
 rw[e0]
 rcases this with⟨σ',g',h1,rfl,⟨y,rfl⟩,h3⟩|⟨_,y,h1,h2⟩
 ·rw[TN]at h3
  exact⟨y,by rw[h1,Uh h3]⟩
 ·exact⟨y,by rw[h1,h2];rfl⟩
theorem QkN{M:Nat}{st:Int}{b:Bool}{L R:D}{c c':Bool}{tl tr:List Tk}(hM:g[M]?=some (JF rows))(hT:Tbl rows n m)(h0:0<=st)(hL:QK g L=some (c,tl.map tkD))(hR:QK g R=some (c',tr.map tkD))(ol:∀t∈tl,TkOk t)(or':∀t∈tr,TkOk t)(zl:tl.length<=60)(zr:tr.length<=60):
  ∃g',Keeps [] g g'/\QW [.ref M,.tup [.int st,.str (fc b),L,R]] g=if st<n/\tl.all (inS m)=true/\tr.all (inS m)=true then .ok .non g' else .raise (7,none) g':=by
 obtain⟨g1,e1,k1⟩:=QjY h0 (fc.lr b) hL hR ol or' zl zr
 refine⟨g1,k1,?_⟩
 have hM1:=k1.at' _ _ (by simp) hM
 have hA:∀i σ,σ[i]?=some (some (.ref M))->Qa9 [11] "table" (mVar i) σ g1=.ok (.tup (rows.map .tup)) g1:=λi σ h=>JH h hM1
 have hn:=hT.len
 have hr:∃r rest,rows=r::rest:=by
  cases rows with
  |nil=>have:=hT.n0;simp at hn;omega
  |cons r rest=>exact⟨r,rest,rfl⟩
 obtain⟨r,rest,hr⟩:=hr
 have hrm:r.length=m:=hT.row r (by rw[hr];simp)
 have st1:JQ [.ref M] g1=.ok (.int n) g1:=by simp[JQ,QcG,hA,hn]
 have sg1:QaO [.ref M] g1=.ok (.int m) g1:=by
  rw[hr]at hA
  simp[QaO,QdA,hA,hrm]
 obtain⟨y1,l1⟩:=QgJ (m:=m) (QF hL k1) ol (some (.ref M)) (some (.tup [.int st,.str (fc b),L,R])) none
 obtain⟨y2,l2⟩:=QgJ (m:=m) (QF hR k1) or' (some (.ref M)) (some (.tup [.int st,.str (fc b),L,R])) y1
 have hcut:cutD [.int st,.str (fc b),L,R] (some 2) none=[L,R]:=rfl
 have hfor:mFor (QX (QH (mVar 1) (Q0 (mLit (.int 2))) Qy)) (gSet 3) Zn [some (.ref M),some (.tup [.int st,.str (fc b),L,R]),some (.int m),none,none] g1=forL ⟨λ_ i=>some [L,R][i]?,2⟩ (gSet 3) Zn 3 0 [some (.ref M),some (.tup [.int st,.str (fc b),L,R]),some (.int m),none,none] g1:=QbD rfl
 by_cases hs:st<n
 ·have hs':¬((n:Int)<=st):=by omega
  by_cases q1:tl.all (inS m)=true
  ·by_cases q2:tr.all (inS m)=true
   ·rw[Uh q1]at l1
    rw[Uh q2]at l2
    rw[Uh ⟨hs,q1,q2⟩]
    simp[QW,Zu,e1,st1,sg1,hs',hfor,forL,gSet,l1,l2]
   ·rw[Uh q1]at l1
    rw[Um q2]at l2
    rw[Um λz=>q2 z.2.2]
    simp[QW,Zu,e1,st1,sg1,hs',hfor,forL,gSet,l1,l2]
  ·rw[Um q1]at l1
   rw[Um λz=>q1 z.2.1]
   simp[QW,Zu,e1,st1,sg1,hs',hfor,forL,gSet,l1]
 ·have hs':(n:Int)<=st:=by omega
  rw[Um λz=>hs z.1]
  simp[QW,Zu,e1,st1,hs']
def Bdm(g:G)(M:Nat)(x:D):Prop:=∀g1,Keeps [] g g1->∃g2,Keeps [] g1 g2/\QW [.ref M,x] g1=.raise (7,none) g2
theorem Bad.mm{M:Nat}{x:D}(h:Bad g x):Bdm g M x:=λg1 k1=>by
 obtain⟨g2,k2,e⟩:=h g1 k1
 exact⟨g2,k2,by simp[QW,Zu,e]⟩
theorem Bdm.moved{M:Nat}{x y:D}(h:Bdm g M x):∃g2,Keeps [] g g2/\JT [.ref M,x,y] g=.raise (7,none) g2:=by
 obtain⟨g2,k2,e⟩:=h g .refl
 exact⟨g2,k2,by simp[JT,QfD,e]⟩
theorem QkO{T:List Tk}(h:∀t∈T,TkL m t):T.all (inS m)=true:=Us.mpr λt ht=>by
 have:=h t ht
 cases t with
 |one s=>exact Uy this.2
 |many w k=>exact Us.mpr λx hx=>Uy (this.2.1 x hx).2
theorem QgK{M:Nat}{st:Int}{b:Bool}{L R:D}{c c':Bool}{tl tr:List Tk}(hM:g[M]?=some (JF rows))(hT:Tbl rows n m)(h0:0<=st)(h1:st<n)(hL:QK g L=some (c,tl.map tkD))(hR:QK g R=some (c',tr.map tkD))(ol:∀t∈tl,TkL m t)(or':∀t∈tr,TkL m t)(zl:tl.length<=60)(zr:tr.length<=60)(y:D):
  ∃g1,Keeps [] g g1/\JT [.ref M,.tup [.int st,.str (fc b),L,R],y] g=Qt [.ref M,shD st b (tl.map tkD) (tr.map tkD),y] g1:=by
 obtain⟨g1,k1,e⟩:=QkN (b:=b) hM hT h0 hL hR (λt ht=>(ol t ht).ok) (λt ht=>(or' t ht).ok) zl zr
 rw[Uh ⟨h1,QkO ol,QkO or'⟩]at e
 refine⟨g1,k1,?_⟩
 have p1:=Qav (QF hL k1)
 have p2:=Qav (QF hR k1)
 have wt:YS [.tup [.int st,.str (fc b),L,R]] g1=.ok (shD st b (tl.map tkD) (tr.map tkD)) g1:=by simp[YS,Qbv,p1,p2,shD]
 cases hr:Qt [.ref M,shD st b (tl.map tkD) (tr.map tkD),y] g1 <;> simp[JT,QfD,e,wt,hr]
end
theorem QlZ{M:Nat}{x y d:D}{g g':G}(h:JT [.ref M,x,y] g=.ok d g'):ZQ [.ref M,x,y] g=.ok (.tup [.str "told",d]) g':=by
 simp[ZQ,Qcp,mTry,h,isNon]
theorem QfN{M c:Nat}{x y:D}{g g':G}(hc:c=7\/c=8)(h:JT [.ref M,x,y] g=.raise (c,none) g')(k:Keeps [] g g'):∃g2,Keeps [] g g2/\ZQ [.ref M,x,y] g=.ok (.tup [.str (if c=8 then Str.ofString "move" else Str.ofString "shape"),.int 0]) g2:=by
 have k1:Keeps [] g' (g'++[.exc (c,none)]):=.push _
 obtain⟨g2,e2,k2⟩:=QkL (n:=g'.length) (W:=Str.ofString "move") (g:=g'++[.exc (c,none)]) hc (Qo _)
 obtain⟨g3,e3,k3⟩:=QkL (n:=g'.length) (W:=Str.ofString "shape") (g:=g2) hc (k2.at' _ _ (by simp) (Qo _))
 have ht:mTry (mAsg (gSet 4) (Qr JT (Qa (mVar 0) (Qa (mVar 1) (Qa (mVar 2) mNil))))) [⟨[0,1,2,3,4,5,6,7,8,9,10],[],some 5,(mAsg (gSet 3) (mVar 5))⟩] [some (.ref M),some x,some y,some .non,some .non,none] g=.nx [some (.ref M),some x,some y,some (.ref g'.length),some .non,none] (g'++[.exc (c,none)]):=by
  rcases hc with rfl|rfl <;> simp[mTry,h,runH,Qkq]
 rcases hc with rfl|rfl
 ·simp[QkK]at e2
  simp[QlV]at e3
  exact⟨g3,k.trans (k1.trans (k2.trans k3)),by simp[ZQ,Qcp,ht,isNon,e2,e3]⟩
 ·simp[QkK]at e2
  exact⟨g2,k.trans (k1.trans k2),by simp[ZQ,Qcp,ht,isNon,e2]⟩
noncomputable def bm(p:Nat):List D:=[.tup [.str "step",.int 0],.tup [.str "stop"],.tup [],.non,.str "step",.ref p,.tup [.str "join",.str (fc false)],.tup [.str "join",.str "x",.int 0],.tup [.str "roll",.str (fc false),.int (-1)]]
noncomputable def bm':List D:=[.tup [.str "draw",.str (fc true),.non],.tup [.str "trim"],.tup [.str "trim",.str (fc false),.int 0],.tup [.str "pad",.int 0],.tup [.int 0],.tup [.str "open",.str (fc true)],.tup [.str "over",.str (fc false),.int 0]]
theorem wdt:(Str.ofString "stop" == Str.ofString "step")=false/\(Str.ofString "stop" == Str.ofString "over")=false/\(Str.ofString "stop" == Str.ofString "open")=false/\(Str.ofString "r" == Str.ofString "x")=false/\(Str.ofString "l" == Str.ofString "x")=false/\(Str.ofString "join" == Str.ofString "pad")=false/\(Str.ofString "join" == Str.ofString "trim")=false/\(Str.ofString "open" == Str.ofString "pad")=false/\(Str.ofString "open" == Str.ofString "trim")=false/\(Str.ofString "join" == Str.ofString "trim")=false/\(Str.ofString "draw" == Str.ofString "trim")=false/\(Str.ofString "roll" == Str.ofString "trim")=false/\(Str.ofString "back" == Str.ofString "trim")=false/\(Str.ofString "join" == Str.ofString "over")=false/\(Str.ofString "draw" == Str.ofString "over")=false/\(Str.ofString "roll" == Str.ofString "over")=false/\(Str.ofString "back" == Str.ofString "over")=false:=by decide +kernel
@[simp] theorem fx_r:(fc true == Str.ofString "x")=false:=wdt.2.2.2.1
@[simp] theorem fx_l:(fc false == Str.ofString "x")=false:=wdt.2.2.2.2.1
theorem Qkb{M p:Nat}{st:Int}{b:Bool}{L R:List Tk}{ds:List D}{g:G}(hp:g[p]?=some (.lst ds)):∀y∈bm p++bm',Qt [.ref M,shD st b (L.map tkD) (R.map tkD),y] g=.raise (8,none) g:=by
 intro y hy
 have pl:=QdG false L 0
 have b1:∀n:Int,QO [.int (-1),.int n] g=.ok (.bl false) g:=λn=>Qej (by omega)
 have b2:∀n:Int,QO [.non,.int n] g=.ok (.bl false) g:=λn=>rfl
 have i0:∀(t u:Str),pIn true (.int 0) (.tup [.str t,.str u]) g=.ok (.bl true) g:=λt u=>rfl
 have e0:∀s:Str,pEq (.ref p) (.tup [.str s]) g=.ok (.bl false) g:=λs=>by simp[pEq,eqN,lstF,hp]
 simp only[bm,bm',List.cons_append,List.nil_append,Ui,List.not_mem_nil,or_false]at hy
 rcases hy with rfl|rfl|rfl|rfl|rfl|rfl|rfl|rfl|rfl|rfl|rfl|rfl|rfl|rfl|rfl|rfl
 ·simp[Qt,QC,Qk,Qm,shD,pEq,eqN,eqGs,i0]
 ·simp[Qt,QC,Qk,Qm,shD,wdt]
 ·simp[Qt,QC,Qk,Qm,shD,pEq,eqN,eqGs]
 ·simp[Qt,QC,Qk,Qm,shD,pEq,eqN,ZS,tyOf,tyLe]
 ·simp[Qt,QC,Qk,Qm,shD,pEq,eqN,ZS,tyOf,tyLe]
 ·simp[Qt,QC,Qk,Qm,shD,e0,Qct hp]
 ·simp[Qt,QC,Qk,Qm,shD,ZN,YZ,wdt]
 ·simp[Qt,QC,Qk,Qm,shD]
 ·simp[Qt,QC,Qk,Qm,shD,Zb,ZT,QS,ZF,b1]
 ·simp[Qt,QC,Qk,Qm,shD,Zb,ZT,QS,ZF,b2,pEq,eqN,eqGs]
 ·simp[Qt,QC,Qk,Qm,shD,wds]
 ·rcases pl with⟨q,w,k,_,e1,_⟩|⟨e1,_⟩ <;> have e1:=e1 g <;> simp at e1 <;> simp[Qt,QC,Qk,Qm,shD,Zb,ZT,e1,wdt]
 ·simp[Qt,QC,Qk,Qm,shD,pEq,eqN,eqGs,i0]
 ·simp[Qt,QC,Qk,Qm,shD,pEq,eqN,eqGs]
 ·simp[Qt,QC,Qk,Qm,shD,ZN,YZ,wdt]
 ·rcases pl with⟨q,w,k,_,e1,_⟩|⟨e1,_⟩ <;> have e1:=e1 g <;> simp at e1 <;> simp[Qt,QC,Qk,Qm,shD,Zb,ZT,e1,wdt]
@[simp] theorem Qo5{g:G}{i j:Int}:pMod (.int i) (.int j) g=if 0<j then .ok (.int (i%j)) g else .stuck:=rfl
@[simp] theorem Qox{g:G}{i j:Int}:QR (.int i) (.int j) g=if 0<j/\j<1073741824 then .ok (.int (i/j)) g else .stuck:=rfl
section
variable{rows:List (List D)}{n m:Nat}{g:G}{M:Nat}{st:Int}{b:Bool}{L R:D}{c c':Bool}{tl tr:List Tk}
theorem Qi3(hM:g[M]?=some (JF rows))(hT:Tbl rows n m)(h0:0<=st)(hL:QK g L=some (c,tl.map tkD))(hR:QK g R=some (c',tr.map tkD))(ol:∀t∈tl,TkOk t)(or':∀t∈tr,TkOk t)(zl:tl.length<=60)(zr:tr.length<=60)(h:¬(st<n/\tl.all (inS m)=true/\tr.all (inS m)=true)):Bdm g M (.tup [.int st,.str (fc b),L,R]):=λg1 k1=>by
 obtain⟨g2,k2,e⟩:=QkN (b:=b) (k1.at' _ _ (by simp) hM) hT h0 (QF hL k1) (QF hR k1) ol or' zl zr
 rw[Um h]at e
 exact⟨g2,k2,e⟩
noncomputable def stT(m:Nat)(q:Int):Tk:=if q/96%2=0 then .one (m+q/16%3) else .many [0,m] (q/48%2)
theorem Qnu(m:Nat)(q:Int):TkOk (stT m q)/\inS m (stT m q)=false:=by
 unfold stT
 split
 ·exact⟨show 0<=_ by omega,Uo (by omega)⟩
 ·refine⟨⟨by simp,λx hx=>?_,by omega,by simp,by omega⟩,?_⟩
  ·simp at hx;omega
  ·simp[inS]
theorem Qi4(hM:g[M]?=some (JF rows))(hT:Tbl rows n m)(h0:0<=st)(h1:st<n)(hL:QK g L=some (c,tl.map tkD))(hR:QK g R=some (c',tr.map tkD))(ol:∀t∈tl,TkL m t)(or':∀t∈tr,TkL m t)(zl:tl.length<=18)(zr:tr.length<=18){q:Int}(q0:0<=q)(x0 x1 x5 x6 x11:Option D):
  ∃x g',Keeps [] g g'/\Bdm g' M x/\mIf (Qj (mOp2 pEq (mOp2 pMod (mOp2 QR (mVar 4) (mLit (.int 192))) (mLit (.int 4))) (mLit (.int 0)))) (mAsg (gSet 3) (mOpA pTup (Qa (mOp2 pAdd (mOp1 pLen (Qa9 [11] "table" (mVar 2))) (mOp2 pMod (mOp2 QR (mVar 4) (mLit (.int 768))) (mLit (.int 2)))) (Qa (mVar 7) (Qa (mVar 8) (Qa (mVar 9) mNil)))))) (mIf (Qj (mOp2 pEq (mOp2 pMod (mOp2 QR (mVar 4) (mLit (.int 192))) (mLit (.int 4))) (mLit (.int 1)))) (mAsg (gSet 3) (mOpA pTup (Qa (mVar 6) (Qa (mVar 7) (Qa (mOp2 pAdd (mOp1 QZ (mVar 8)) (mOpA pTup (Qa (mVar 11) mNil))) (Qa (mVar 9) mNil)))))) (mIf (Qj (mOp2 pEq (mOp2 pMod (mOp2 QR (mVar 4) (mLit (.int 192))) (mLit (.int 4))) (mLit (.int 2)))) (mAsg (gSet 3) (mOpA pTup (Qa (mVar 6) (Qa (mVar 7) (Qa (mVar 8) (Qa (mOp2 pAdd (mOpA pTup (Qa (mVar 11) mNil)) (mOp1 QZ (mVar 9))) mNil)))))) (mAsg (gSet 3) (Qr Yw (Qa (mOp2 QR (mVar 4) (mLit (.int 768))) (Qa (mVar 3) mNil)))))) [x0,x1,some (.ref M),some (.tup [.int st,.str (fc b),L,R]),some (.int q),x5,some (.int st),some (.str (fc b)),some L,some R,x11,some (tkD (stT m q))] g=.nx [x0,x1,some (.ref M),some x,some (.int q),x5,some (.int st),some (.str (fc b)),some L,some R,x11,some (tkD (stT m q))] g':=by
 have hA:∀i σ,σ[i]?=some (some (.ref M))->Qa9 [11] "table" (mVar i) σ g=.ok (.tup (rows.map .tup)) g:=λi σ h=>JH h hM
 have hn:=hT.len
 have p1:=Qav hL
 have p2:=Qav hR
 have ol':=λt ht=>(ol t ht).ok
 have or'':=λt ht=>(or' t ht).ok
 obtain⟨s1,s2⟩:=Qnu m q
 rcases(by omega:q/192%4=0\/q/192%4=1\/q/192%4=2\/q/192%4=3) with e|e|e|e
 ·refine⟨.tup [.int (n+q/768%2),.str (fc b),L,R],g,.refl,Qi3 hM hT (by omega) hL hR ol' or'' (by omega) (by omega) (λz=>by omega),?_⟩
  simp[e,hA,hn]
 ·refine⟨.tup [.int st,.str (fc b),.tup (tl.map tkD++[tkD (stT m q)]),R],g,.refl,Qi3 (tl:=tl++[stT m q]) (c:=false) hM hT h0 (by unfold QK;simp) hR (λt ht=>?_) or'' (by simp;omega) (by omega) (λz=>by have:=z.2.1;simp[s2]at this),?_⟩
  ·rcases Up.mp ht with z|z
   ·exact ol' t z
   ·rw[Ug.mp z];exact s1
  ·simp[e,p1,Qaw (g:=g) (xs:=tl.map tkD) (ys:=[tkD (stT m q)]) (by simp;omega)]
 ·refine⟨.tup [.int st,.str (fc b),L,.tup (tkD (stT m q)::tr.map tkD)],g,.refl,Qi3 (tr:=stT m q::tr) (c':=false) hM hT h0 hL (by unfold QK;simp) ol' (λt ht=>?_) (by omega) (by simp;omega) (λz=>by have:=z.2.2;simp[s2]at this),?_⟩
  ·rcases Ui.mp ht with rfl|z
   ·exact s1
   ·exact or'' t z
  ·simp[e,p2,Qaw (g:=g) (ys:=tr.map tkD) (xs:=[tkD (stT m q)]) (by simp;omega)]
 ·obtain⟨x,g',k1,k2,k3⟩:=QlY (q:=q/768) (by omega) h0 (fc.lr b) hL hR ol' or'' (by omega) (by omega)
  refine⟨x,g',k2,k3.mm,?_⟩
  simp[e,k1]
end
theorem Qay{ds:List D}{g:G}(h:ds.length<=100000):newL ds g=.ok (.ref g.length) (g++[.lst ds]):=Uh (UU (QbE h))
theorem Qoy{g:G}{W:Str}{i:Int}:pNe (.tup [.str W,.int i]) (.tup [.str W,.int i]) g=.ok (.bl false) g:=by
 unfold pNe;rw[Qj0 g 5 3 (.tup [.str W,.int i]) rfl];rfl
theorem Qoz{g:G}{W:Str}{i:Int}:pEq (.tup [.str W,.int i]) (.tup [.str W,.int i]) g=.ok (.bl true) g:=by
 unfold pEq;rw[Qj0 g 5 3 (.tup [.str W,.int i]) rfl]
section
variable{rows:List (List D)}{n m:Nat}{g:G}{M:Nat}{st:Int}{b:Bool}{L R:D}{c c':Bool}{tl tr:List Tk}
theorem QfO{x:D}{g:G}(hB:Bdm g M x){p:Nat}{ds:List D}(hp:g[p]?=some (.lst ds))(hl:ds.length=16){q:Int}(q0:0<=q)(x0 x1 x6 x7 x8 x9 x10 x11:Option D):
  ∃g',Keeps [] g g'/\mRet (mOp2 pEq (Qr ZQ (Qa (mVar 2) (Qa (mVar 3) (Qa (mOp2 pIx (mOpA newL (Qa (mOpA pTup (Qa (mLit (.str "step")) mNil)) (Qa (mOp2 pIx (mVar 5) (mOp2 pMod (mVar 4) (mLit (.int 16)))) (Qa (mOpA pTup (Qa (mLit (.str "pad")) (Qa (mLit (.str "l")) mNil))) mNil)))) (mOp2 pMod (mOp2 QR (mVar 4) (mLit (.int 3))) (mLit (.int 3)))) mNil)))) (mOpA pTup (Qa (mLit (.str "shape")) (Qa (mLit (.int 0)) mNil)))) [x0,x1,some (.ref M),some x,some (.int q),some (.ref p),x6,x7,x8,x9,x10,x11] g=.rt (.bl true) g':=by
 obtain⟨d,d1,_⟩:=pick (xs:=ds) (i:=q%16) (by omega) (by omega)
 have e1:=Qab hp (by omega) d1
 have k1:Keeps [] g (g++[.lst [.tup [.str "step"],d,.tup [.str "pad",.str (fc false)]]]):=.push _
 have p1:(g++[GO.lst [.tup [.str "step"],d,.tup [.str "pad",.str (fc false)]]])[g.length]?=_:=Qo _
 obtain⟨y,y1,_⟩:=pick (xs:=[D.tup [.str "step"],d,.tup [.str "pad",.str (fc false)]]) (i:=q/3%3) (by omega) (by simp;omega)
 have e2:=Qab p1 (by omega) y1
 have hn:=λg=>Qay (ds:=[.tup [.str "step"],d,.tup [.str "pad",.str (fc false)]]) (g:=g) (by simp)
 have hB':Bdm (g++[.lst [.tup [.str "step"],d,.tup [.str "pad",.str (fc false)]]]) M x:=λg1 kk=>hB g1 (k1.trans kk)
 obtain⟨g2,k2,e3⟩:=hB'.moved (y:=y)
 obtain⟨g3,k3,e4⟩:=QfN (.inl rfl) e3 k2
 refine⟨g3,k1.trans k3,Yz (Qw (x:=.tup [.str "shape",.int 0]) (y:=.tup [.str "shape",.int 0]) (g1:=g3) (g2:=g3) ?_ (by simp) Qoz)⟩
 simp[e1,hn,e2,e4]
theorem QfP{p:Nat}(hM:g[M]?=some (JF rows))(hT:Tbl rows n m)(h0:0<=st)(h1:st<n)(hL:QK g L=some (c,tl.map tkD))(hR:QK g R=some (c',tr.map tkD))(ol:∀t∈tl,TkL m t)(or':∀t∈tr,TkL m t)(zl:tl.length<=18)(zr:tr.length<=18){ds:List D}(hp:g[p]?=some (.lst ds)){y:D}(hy:y∈bm p++bm'):
  ∃g',Keeps [] g g'/\ZQ [.ref M,.tup [.int st,.str (fc b),L,R],y] g=.ok (.tup [.str "move",.int 0]) g':=by
 obtain⟨g1,k1,e1⟩:=QgK (b:=b) hM hT h0 h1 hL hR ol or' (by omega) (by omega) y
 rw[Qkb (k1.at' _ _ (by simp) hp) y hy]at e1
 obtain⟨g2,k2,e2⟩:=QfN (.inr rfl) e1 k1
 exact⟨g2,k2,e2⟩
theorem Qhe(ns:List Int){a l r:Nat}{k:Int}(ga:g[a]?=some (.lst [.int k]))(hk:0<=k)(hk2:k<500000000)(hM:g[M]?=some (JF rows))(hT:Tbl rows n m)(h0:0<=st)(h1:st<n)(hl:g[l]?=some (.lst (tl.map tkD)))(hr:g[r]?=some (.lst (tr.map tkD)))(ol:∀t∈tl,TkL m t)(or':∀t∈tr,TkL m t)(zl:tl.length<=18)(zr:tr.length<=18)(hMa:M≠a)(hla:l≠a)(hra:r≠a):
  ∃g',Keeps [a] g g'/\g'[a]?=some (.lst [.int (k+1)])/\Qbd [.fl (ns.map .int),.ref a,.ref M,.tup [.int st,.str (fc b),.ref l,.ref r]] g=.ok (.bl true) g':=by
 obtain⟨q,q0,q1,e1⟩:=Qbf ns a k g ga hk (by omega)
 have k1:Keeps [a] g (g.set a (.lst [.int (k+1)])):=.set _ _
 have ga1:(g.set a (.lst [.int (k+1)]))[a]?=some (.lst [.int (k+1)]):=Z4 ga
 generalize g.set a (.lst [.int (k+1)])=g1 at e1 k1 ga1
 have hM1:=k1.at' M _ (by simpa using hMa) hM
 have hl1:=k1.at' l _ (by simpa using hla) hl
 have hr1:=k1.at' r _ (by simpa using hra) hr
 have k2:Keeps [] g1 (g1++[.lst [.str "step"]]):=.push _
 have p2:(g1++[GO.lst [.str "step"]])[g1.length]?=_:=Qo _
 have n1:=Qay (ds:=[.str "step"]) (g:=g1) (by simp)
 generalize g1.length=p at p2 n1
 generalize g1++[GO.lst [.str "step"]]=g2 at k2 p2 n1
 have n2:=Qay (ds:=bm p) (g:=g2) (by simp[bm])
 have k3:Keeps [] g2 (g2++[.lst (bm p)]):=.push _
 have p3:(g2++[GO.lst (bm p)])[g2.length]?=_:=Qo _
 generalize g2.length=p' at p3 n2
 generalize g2++[GO.lst (bm p)]=g3 at k3 p3 n2
 have n3:=Qay (ds:=bm') (g:=g3) (by simp[bm'])
 have k4:Keeps [] g3 (g3++[.lst bm']):=.push _
 have p4:(g3++[GO.lst bm'])[g3.length]?=_:=Qo _
 generalize g3.length=p'' at p4 n3
 generalize g3++[GO.lst bm']=g4 at k4 p4 n3
 have n4:=YT (k4.at' _ _ (by simp) p3) p4 (by simp[bm,bm'])
 have k5:Keeps [] g4 (g4++[.lst (bm p++bm')]):=.push _
 have p5:(g4++[GO.lst (bm p++bm')])[g4.length]?=_:=Qo _
 generalize g4.length=v at p5 n4
 generalize g4++[GO.lst (bm p++bm')]=g5 at k5 p5 n4
 have k15:Keeps [] g1 g5:=k2.trans (k3.trans (k4.trans k5))
 obtain⟨y,y1,y2⟩:=pick (xs:=bm p++bm') (i:=q%16) (by omega) (by simp[bm,bm'];omega)
 obtain⟨g6,k6,e6⟩:=QfP (b:=b) (p:=p) (k15.at' _ _ (by simp) hM1) hT h0 h1 (Zt (k15.at' _ _ (by simp) hl1)) (Zt (k15.at' _ _ (by simp) hr1)) ol or' zl zr ((k3.trans (k4.trans k5)).at' _ _ (by simp) p2) y2
 have e5:=Qab p5 (by omega) y1
 have k16:=k15.trans k6
 have hM6:=k16.at' _ _ (by simp) hM1
 have k7:Keeps [] g6 (g6++[.lst [tkD (.one (m+q/16%3)),tkD (.many [0,m] (q/48%2))]]):=.push _
 have e7:pIx (.ref g6.length) (.int (q/96%2)) (g6++[.lst [tkD (.one (m+q/16%3)),tkD (.many [0,m] (q/48%2))]])=.ok (tkD (stT m q)) (g6++[.lst [tkD (.one (m+q/16%3)),tkD (.many [0,m] (q/48%2))]]):=by
  unfold stT
  rcases(by omega:q/96%2=0\/q/96%2=1) with z|z
  ·rw[z,Uh rfl];simp
  ·rw[z,Um (by decide)];simp
 have n7:newL [tkD (.one (m+q/16%3)),tkD (.many [0,m] (q/48%2))] g6=_:=Qay (by simp)
 generalize g6++[GO.lst [tkD (.one (m+q/16%3)),tkD (.many [0,m] (q/48%2))]]=g7 at k7 e7 n7
 have k17:=k16.trans k7
 obtain⟨x,g8,k8,hB,e8⟩:=Qi4 (b:=b) (k17.at' _ _ (by simp) hM1) hT h0 h1 (Zt (k17.at' _ _ (by simp) hl1)) (Zt (k17.at' _ _ (by simp) hr1)) ol or' zl zr q0 (some (.fl (ns.map .int))) (some (.ref a)) (some (.ref v)) none (some (.int m))
 obtain⟨g9,k9,e9⟩:=QfO hB (k8.at' _ _ (by simp) ((k6.trans k7).at' _ _ (by simp) p5)) (by simp[bm,bm']) q0 (some (.fl (ns.map .int))) (some (.ref a)) (some (.int st)) (some (.str (fc b))) (some (.ref l)) (some (.ref r)) (some (.int m)) (some (tkD (stT m q)))
 have k19:=k17.trans (k8.trans k9)
 have hrow:∃r rest,rows=r::rest/\r.length=m:=by
  have hn:=hT.len
  cases hr:rows with
  |nil=>have:=hT.n0;rw[hr]at hn;simp at hn;omega
  |cons r rest=>exact⟨r,rest,rfl,hT.row r (by rw[hr];simp)⟩
 obtain⟨r0,rest,hr0,hrm⟩:=hrow
 have hA:Qa9 [11] "table" (mVar 2) [some (.fl (ns.map .int)),some (.ref a),some (.ref M),some (.tup [.int st,.str (fc b),.ref l,.ref r]),some (.int q),some (.ref v),some (.int st),some (.str (fc b)),some (.ref l),some (.ref r),none,none] g6=.ok (.tup (rows.map .tup)) g6:=JH rfl hM6
 refine⟨g9,k1.trans k19.all,k19.at' _ _ (by simp) ga1,ZR rfl ?_⟩
 unfold QcL
 refine Ql [some (.fl (ns.map .int)),some (.ref a),some (.ref M),some (.tup [.int st,.str (fc b),.ref l,.ref r]),some (.int q),none,none,none,none,none,none,none] g1 (by simp[e1]) ?_
 refine Ql [some (.fl (ns.map .int)),some (.ref a),some (.ref M),some (.tup [.int st,.str (fc b),.ref l,.ref r]),some (.int q),some (.ref p'),none,none,none,none,none,none] g3 ?_ ?_
 ·unfold bm at n2;simp[n1,n2]
 refine Ql [some (.fl (ns.map .int)),some (.ref a),some (.ref M),some (.tup [.int st,.str (fc b),.ref l,.ref r]),some (.int q),some (.ref v),none,none,none,none,none,none] g5 ?_ ?_
 ·unfold bm' at n3;simp[n3,n4]
 refine Ql _ g6 (iff' g6 ?_ rfl) ?_
 ·simp[e5,e6,Qoy]
 refine Ql [some (.fl (ns.map .int)),some (.ref a),some (.ref M),some (.tup [.int st,.str (fc b),.ref l,.ref r]),some (.int q),some (.ref v),some (.int st),some (.str (fc b)),some (.ref l),some (.ref r),none,none] g6 rfl ?_
 refine Ql [some (.fl (ns.map .int)),some (.ref a),some (.ref M),some (.tup [.int st,.str (fc b),.ref l,.ref r]),some (.int q),some (.ref v),some (.int st),some (.str (fc b)),some (.ref l),some (.ref r),some (.int m),none] g6 ?_ ?_
 ·rw[hr0]at hA;simp[hA,hrm]
 refine Ql [some (.fl (ns.map .int)),some (.ref a),some (.ref M),some (.tup [.int st,.str (fc b),.ref l,.ref r]),some (.int q),some (.ref v),some (.int st),some (.str (fc b)),some (.ref l),some (.ref r),some (.int m),some (tkD (stT m q))] g7 ?_ ?_
 ·simp[tkD]at n7;simp[n7,e7]
 exact Ql _ g8 e8 e9
end
noncomputable def Qe9(s:Bool)(i:Nat):List Mv:=[.many .join s i,.many .draw s i,.many .roll s i,.many .back s i]
noncomputable def first7:List Mv:=[.step,.over,.opn,.ends false false,.ends false true,.ends true false,.ends true true]
section
variable{g:G}
theorem Ql0{p:Nat}{mvs:List Mv}{s:Bool}{i:Nat}(hp:g[p]?=some (.lst (mvs.map mvD)))(hz:mvs.length<=1000)(x0 x3:Option D):∃p' g',Jl [x0,some (.ref p),some (.str (fc s)),x3,some (.int i)] g=.nx [x0,some (.ref p'),some (.str (fc s)),x3,some (.int i)] g'/\Keeps [] g g'/\g'[p']?=some (.lst ((mvs++Qe9 s i).map mvD)):=by
 have k1:Keeps [] g (g++[.lst [.str "join",.str "draw",.str "roll",.str "back"]]):=.push _
 have p1:(g++[GO.lst [.str "join",.str "draw",.str "roll",.str "back"]])[g.length]?=_:=Qo _
 have n1:=Qay (ds:=[.str "join",.str "draw",.str "roll",.str "back"]) (g:=g) (by simp)
 generalize g.length=w at p1 n1
 generalize g++[GO.lst [.str "join",.str "draw",.str "roll",.str "back"]]=g1 at k1 p1 n1
 obtain⟨src,s1,s2,s3⟩:=QdB (Zt p1)
 obtain⟨g2,c1,k2⟩:=QgC (e:=mOpA pTup (Qa (mVar 0) (Qa (mVar 1) (Qa (mVar 2) mNil)))) (no:=0) (σ:=[some (.str (fc s)),some (.int i)]) (g:=g1) (f:=λd=>.tup [d,.str (fc s),.int i]) s2 (λg1' j kk=>s3 _ _ (QF (Zt p1) kk)) (λd _ g' _=>⟨g',by simp,.refl⟩)
 have e2:Yc (QX (mOpA newL (Qa (mLit (.str "join")) (Qa (mLit (.str "draw")) (Qa (mLit (.str "roll")) (Qa (mLit (.str "back")) mNil)))))) 1 [2,4] (gSet 0) ZX (mOpA pTup (Qa (mVar 0) (Qa (mVar 1) (Qa (mVar 2) mNil)))) [x0,some (.ref p),some (.str (fc s)),x3,some (.int i)] g=_:=Qbg (by unfold QX;rw[show mOpA newL (Qa (mLit (.str "join")) (Qa (mLit (.str "draw")) (Qa (mLit (.str "roll")) (Qa (mLit (.str "back")) mNil)))) [x0,some (.ref p),some (.str (fc s)),x3,some (.int i)] g=.ok (.ref w) g1 by simp[n1],Res.bind_ok];exact s1) (by rw[s2];decide) rfl c1
 have hm:[D.str "join",.str "draw",.str "roll",.str "back"].map (λd=>D.tup [d,.str (fc s),.int i])=(Qe9 s i).map mvD:=rfl
 rw[hm]at e2
 have k3:Keeps [] g2 (g2++[.lst ((Qe9 s i).map mvD)]):=.push _
 have p3:(g2++[GO.lst ((Qe9 s i).map mvD)])[g2.length]?=_:=Qo _
 generalize g2.length=w2 at p3 e2
 generalize g2++[GO.lst ((Qe9 s i).map mvD)]=g3 at k3 p3 e2
 have kk:=k1.trans (k2.trans k3)
 have e3:=YT (kk.at' _ _ (by simp) hp) p3 (by simp[Qe9];omega)
 refine⟨g3.length,_,?_,kk.trans (.push _),(Qo _).trans (by rw[U1])⟩
 unfold Jl
 exact ZG (i:=1) (Qw (x:=.ref p) (g1:=g) rfl e2 e3)
theorem Qi5{p:Nat}{mvs:List Mv}{s:Bool}{T X Y:D}{n:Nat}(hp:g[p]?=some (.lst (mvs.map mvD)))(hz:mvs.length<=500)(hn:n<=60)(hT:∀g,pLen T g=.ok (.int n) g)(hXY:T=if s then Y else X)(x3 x4:Option D){u v:D}:∃p' mvs' y3 y4 g',YG [some (.tup [u,v,X,Y]),some (.ref p),some (.str (fc s)),x3,x4] g=.nx [some (.tup [u,v,X,Y]),some (.ref p'),some (.str (fc s)),y3,y4] g'/\Keeps [] g g'/\g'[p']?=some (.lst ((mvs++mvs').map mvD))/\mvs'.length<=244:=by
 have k1:Keeps [] g (g++[.lst [Y,X]]):=.push _
 have e1:mAsg (gSet 3) (mOp2 pIx (mOpA newL (Qa (mOp2 pIx (mVar 0) (mLit (.int 3))) (Qa (mOp2 pIx (mVar 0) (mLit (.int 2))) mNil))) (mOp1 pInt (mOp2 pEq (mVar 2) (mLit (.str "l"))))) [some (.tup [u,v,X,Y]),some (.ref p),some (.str (fc s)),x3,x4] g=.nx [some (.tup [u,v,X,Y]),some (.ref p),some (.str (fc s)),some T,x4] (g++[.lst [Y,X]]):=by
  subst hXY
  cases s <;> simp
 generalize g++[GO.lst [Y,X]]=g1 at k1 e1
 have e2:mOp2 pAdd (mOp1 pLen (mVar 3)) (mLit (.int 1)) [some (.tup [u,v,X,Y]),some (.ref p),some (.str (fc s)),some T,x4] g1=.ok (.int ((n+1:Nat):Int)) g1:=by simp[hT]
 obtain⟨σ',g',e3,p',⟨y4,i1⟩,i2,mvs',i3,i4⟩:=QbB (t:=gSet 4) (body:=Jl) (lo:=0) (n:=n+1) (σ:=[some (.tup [u,v,X,Y]),some (.ref p),some (.str (fc s)),some T,x4]) (g:=g1)
  (λi σ g2=>∃q:Nat,(∃y,σ=[some (.tup [u,v,X,Y]),some (.ref q),some (.str (fc s)),some T,y])/\Keeps [] g1 g2/\∃ms,g2[q]?=some (.lst ((mvs++ms).map mvD))/\ms.length=4*i) ⟨p,⟨x4,rfl⟩,.refl,[],by rw[UW];exact k1.at' _ _ (by simp) hp,rfl⟩ (λi σ g2 hi hQ=>by
   obtain⟨q,⟨y,i1⟩,i2,ms,i3,i4⟩:=hQ
   subst i1
   obtain⟨q',g3,e,k,h⟩:=Ql0 (s:=s) (i:=i) i3 (by simp;omega) (some (.tup [u,v,X,Y])) (some T)
   refine⟨_,_,g3,rfl,(by rw[Int.zero_add];exact e),q',⟨_,rfl⟩,i2.trans k,ms++Qe9 s i,by rw[<-TH];exact h,by simp[Qe9];omega⟩)
 subst i1
 refine⟨p',mvs',some T,y4,g',?_,k1.trans i2,i3,by omega⟩
 unfold YG
 exact Ql _ g1 e1 ((QbD (JG e2 (QdC (by omega)))).trans e3)
theorem QgL{st:Int}{b:Bool}{tl tr:List Tk}(zl:tl.length<=60)(zr:tr.length<=60):∃p mvs g',Qau [shD st b (tl.map tkD) (tr.map tkD)] g=.ok (.ref p) g'/\Keeps [] g g'/\g'[p]?=some (.lst ((first7++mvs).map mvD))/\mvs.length<=488:=by
 have k1:Keeps [] g (g++[.lst (first7.map mvD)]):=.push _
 have p1:(g++[GO.lst (first7.map mvD)])[g.length]?=_:=Qo _
 have n1:=Qay (ds:=first7.map mvD) (g:=g) (by simp[first7])
 generalize g.length=p0 at p1 n1
 generalize g++[GO.lst (first7.map mvD)]=g1 at k1 p1 n1
 have k2:Keeps [] g1 (g1++[.lst [.str (fc false),.str (fc true)]]):=.push _
 have p2:(g1++[GO.lst [.str (fc false),.str (fc true)]])[g1.length]?=_:=Qo _
 have n2:=Qay (ds:=[.str (fc false),.str (fc true)]) (g:=g1) (by simp)
 generalize g1.length=p2' at p2 n2
 generalize g1++[GO.lst [.str (fc false),.str (fc true)]]=g2 at k2 p2 n2
 obtain⟨src,s1,s2,s3⟩:=QdB (Zt p2)
 obtain⟨q1,ms1,y3,y4,g3,e3,k3,h3,z3⟩:=Qi5 (s:=false) (T:=.tup (tl.map tkD)) (X:=.tup (tl.map tkD)) (Y:=.tup (tr.map tkD)) (n:=tl.length) (k2.at' _ _ (by simp) p1) (by simp[first7]) zl (λ_=>by simp) rfl none none (u:=.int st) (v:=.str (fc b))
 obtain⟨q2,ms2,z3',z4',g4,e4,k4,h4,z4⟩:=Qi5 (s:=true) (T:=.tup (tr.map tkD)) (X:=.tup (tl.map tkD)) (Y:=.tup (tr.map tkD)) (n:=tr.length) h3 (by simp[first7];omega) zr (λ_=>by simp) rfl y3 y4 (u:=.int st) (v:=.str (fc b))
 have a0:=s3 g2 0 (Zt p2)
 have a1:=s3 g3 1 (QF (Zt p2) k3)
 have a2:=s3 g4 2 (QF (Zt p2) (k3.trans k4))
 have hF:mFor (QX (mOpA newL (Qa (mLit (.str "l")) (Qa (mLit (.str "r")) mNil)))) (gSet 2) YG [some (shD st b (tl.map tkD) (tr.map tkD)),some (.ref p0),none,none,none] g1=.nx [some (shD st b (tl.map tkD) (tr.map tkD)),some (.ref q2),some (.str (fc true)),z3',z4'] g4:=by
  refine(QbD (src:=src) (g':=g2) ?_).trans ?_
  ·unfold QX
   rw[show mOpA newL (Qa (mLit (.str "l")) (Qa (mLit (.str "r")) mNil)) [some (shD st b (tl.map tkD) (tr.map tkD)),some (.ref p0),none,none,none] g1=.ok (.ref p2') g2 by simpa using n2,Res.bind_ok]
   exact s1
  ·rw[s2]
   show forL src (gSet 2) YG 3 0 _ g2=_
   simp at a0 a1 a2
   simp[forL,a0,a1,a2,gSet,shD,e3,e4]
 refine⟨q2,ms1++ms2,g4,ZR rfl ?_,k1.trans (k2.trans (k3.trans k4)),by rw[<-TH];exact h4,by simp;omega⟩
 unfold Qe0
 refine Ql [some (shD st b (tl.map tkD) (tr.map tkD)),some (.ref p0),none,none,none] g1 ?_ (Ql _ g4 hF rfl)
 simp[first7,mvD,eS]at n1
 simp[n1]
end
noncomputable def tD:Option D->D
 |some d=>.tup [.str "told",d]
 |none=>.tup [.str "move",.int 0]
theorem Qnv{f:Nat}{d:D}(h:pq f d=true):isNon d=false:=by
 cases f with
 |zero=>cases h
 |succ f=>cases d <;> first|rfl|cases h
theorem SHO.tD{o:Option D}(h:SHO o):pq 6 (tD o)=true:=by
 cases o with
 |none=>rfl
 |some d =>
  exact QcT (by simp) λx hx=>by
   rcases Ui.mp hx with rfl|hx
   ·rfl
   ·rw[Ug.mp hx];exact h d rfl
section
variable{rows:List (List D)}{n m:Nat}{g:G}{M:Nat}{st:Int}{b:Bool}{tl tr:List Tk}
theorem Qfa(hT:Tbl rows n m)(h0:0<=st)(h1:st<n)(ol:∀t∈tl,TkL m t)(or':∀t∈tr,TkL m t)(zl:tl.length<=60)(zr:tr.length<=60)(mv:Mv):∃o:Option D,SHO o/\(∀g N t,tabOf N g t rows->∃g',Keeps [] g g'/\Y4 [.ref t,shD st b (tl.map tkD) (tr.map tkD),mvD mv] g=Lw o g')/\∀(g:G)(M:Nat)(L R:D)(c c':Bool),g[M]?=some (JF rows)->QK g L=some (c,tl.map tkD)->QK g R=some (c',tr.map tkD)->∃g',Keeps [] g g'/\ZQ [.ref M,.tup [.int st,.str (fc b),L,R],mvD mv] g=.ok (tD o) g':=by
 obtain⟨o,d1,d2,d3⟩:=Qj2 (b:=b) hT h0 h1 ol or' zl zr mv
 refine⟨o,d3,d2,λg M L R c c' hM hL hR=>?_⟩
 obtain⟨g1,k1,e1⟩:=QgK (b:=b) hM hT h0 h1 hL hR ol or' zl zr (mvD mv)
 obtain⟨g2,k2,e2⟩:=d1 g1 M (k1.at' _ _ (by simp) hM)
 rw[e2]at e1
 cases o with
 |some d=>exact⟨g2,k1.trans k2,QlZ e1⟩
 |none =>
  obtain⟨g3,k3,e3⟩:=QfN (.inr rfl) e1 (k1.trans k2)
  exact⟨g3,k3,e3⟩
theorem Qnw{x:D}(h:pq 6 x=true):∃g2,Yb 6 [x,x] g=.ok (.bl true) g2/\Keeps [] g g2:=QiG (Qns g 6 x h) g .refl
theorem Qhf{t N l r:Nat}(hT:Tbl rows n m)(h0:0<=st)(h1:st<n)(ol:∀t∈tl,TkL m t)(or':∀t∈tr,TkL m t)(zl:tl.length<=60)(zr:tr.length<=60)(ht:tabOf N g t rows)(hM:g[M]?=some (JF rows))(hl:g[l]?=some (.lst (tl.map tkD)))(hr:g[r]?=some (.lst (tr.map tkD)))(mv:Mv)(x0 x1 x2 x3 x4 x10 x11 x12:Option D):
  ∃y10 y11 g',YH [x0,x1,x2,x3,x4,some (.ref t),some (.ref M),some (.tup [.int st,.str (fc b),.ref l,.ref r]),some (shD st b (tl.map tkD) (tr.map tkD)),some (mvD mv),x10,x11,x12] g=.nx [x0,x1,x2,x3,x4,some (.ref t),some (.ref M),some (.tup [.int st,.str (fc b),.ref l,.ref r]),some (shD st b (tl.map tkD) (tr.map tkD)),some (mvD mv),y10,y11,x12] g'/\Keeps [] g g':=by
 obtain⟨o,d1,d2,d3⟩:=Qfa (b:=b) hT h0 h1 ol or' zl zr mv
 obtain⟨g1,k1,e1⟩:=d2 g N t ht
 obtain⟨g2,k2,e2⟩:=d3 g1 M (.ref l) (.ref r) true true (k1.at' _ _ (by simp) hM) (Zt (k1.at' _ _ (by simp) hl)) (Zt (k1.at' _ _ (by simp) hr))
 obtain⟨g3,e3,k3⟩:=Qnw (g:=g2) d1.tD
 refine⟨some (o.getD .non),some (tD o),g3,?_,k1.trans (k2.trans k3)⟩
 unfold YH
 generalize Yb 6=F at e3 ⊢
 cases o with
 |none=>simp[Lw]at e1;simp[tD]at e3 e2;simp[e1,isNon,e2,e3,tD]
 |some d =>
  have hd:=Qnv (d1 d rfl)
  simp[Lw]at e1;simp[tD]at e3 e2;simp[e1,hd,e2,e3,tD]
end
theorem Qi6:∀(f:Nat)(d:D),pq f d=true->pq (f+1) d=true
 |0,_,h=>absurd h Uc
 |f+1,d,h=>by
  cases d with
  |tup ds =>
   have h':(decide (ds.length<=100000) && ds.all (pq f))=true:=h
   rw[Uu,TJ,Us]at h'
   exact QcT h'.1 λx hx=>Qi6 f x (h'.2 x hx)
  |_=>first|rfl|exact absurd h Uc
section
variable{rows:List (List D)}{n m:Nat}{g:G}{M:Nat}{st:Int}{b:Bool}{tl tr:List Tk}
theorem Qhg{t N l r:Nat}(hT:Tbl rows n m)(h0:0<=st)(h1:st<n)(ol:∀t∈tl,TkL m t)(or':∀t∈tr,TkL m t)(zl:tl.length<=60)(zr:tr.length<=60)(ht:tabOf N g t rows)(hM:g[M]?=some (JF rows))(hl:g[l]?=some (.lst (tl.map tkD)))(hr:g[r]?=some (.lst (tr.map tkD)))(x0 x1 x2 x3 x4 x12:Option D):
  ∃y9 y10 y11 g',mFor (QX (Qr Qau (Qa (mVar 8) mNil))) (gSet 9) YH [x0,x1,x2,x3,x4,some (.ref t),some (.ref M),some (.tup [.int st,.str (fc b),.ref l,.ref r]),some (shD st b (tl.map tkD) (tr.map tkD)),none,none,none,x12] g=.nx [x0,x1,x2,x3,x4,some (.ref t),some (.ref M),some (.tup [.int st,.str (fc b),.ref l,.ref r]),some (shD st b (tl.map tkD) (tr.map tkD)),y9,y10,y11,x12] g'/\Keeps [] g g':=by
 obtain⟨p,mvs,g1,e1,k1,p1,z1⟩:=QgL (st:=st) (b:=b) (g:=g) zl zr
 generalize first7++mvs=ms at p1
 obtain⟨src,s1,s2,s3⟩:=QdB (Zt p1)
 rw[Ud]at s2
 obtain⟨σ',g2,e2,⟨y9,y10,y11,i1⟩,i2⟩:=QlC (src:=src) (t:=gSet 9) (body:=YH) (n:=ms.length) (σ:=[x0,x1,x2,x3,x4,some (.ref t),some (.ref M),some (.tup [.int st,.str (fc b),.ref l,.ref r]),some (shD st b (tl.map tkD) (tr.map tkD)),none,none,none,x12]) (g:=g1) s2
  (λi σ g2=>(∃y9 y10 y11,σ=[x0,x1,x2,x3,x4,some (.ref t),some (.ref M),some (.tup [.int st,.str (fc b),.ref l,.ref r]),some (shD st b (tl.map tkD) (tr.map tkD)),y9,y10,y11,x12])/\Keeps [] g1 g2) ⟨⟨none,none,none,rfl⟩,.refl⟩ (λi σ g2 hi hQ=>by
   obtain⟨⟨y9,y10,y11,i1⟩,i2⟩:=hQ
   subst i1
   have kk:=k1.trans i2
   obtain⟨z10,z11,g3,e3,k3⟩:=Qhf (b:=b) hT h0 h1 ol or' zl zr (ht.mono kk (by simp)) (kk.at' _ _ (by simp) hM) (kk.at' _ _ (by simp) hl) (kk.at' _ _ (by simp) hr) ms[i] x0 x1 x2 x3 x4 y10 y11 x12
   exact⟨mvD ms[i],_,_,g3,by rw[s3 g2 i (QF (Zt p1) i2)];simp[hi],rfl,e3,⟨_,_,_,rfl⟩,i2.trans k3⟩) (λσ g2 hQ=>by rw[s3 g2 _ (QF (Zt p1) hQ.2)];simp)
 subst i1
 refine⟨y9,y10,y11,g2,(QbD ?_).trans e2,k1.trans i2⟩
 unfold QX
 rw[Zo (ds:=[shD st b (tl.map tkD) (tr.map tkD)]) (g':=g) rfl,e1,Res.bind_ok]
 exact s1
theorem Qi7(ns:List Int){a:Nat}{k:Int}{g:G}(ga:g[a]?=some (.lst [.int k]))(hk:0<=k)(hk2:k<400000000):
  ∃k' g',QcM [.fl (ns.map .int),.ref a] g=.ok (.bl true) g'/\k<=k'/\k'<=k+50/\g'[a]?=some (.lst [.int k']):=by
 obtain⟨q,q0,q1,e1⟩:=Qbf ns a k g ga hk (by omega)
 have ga1:(g.set a (.lst [.int (k+1)]))[a]?=some (.lst [.int (k+1)]):=Z4 ga
 generalize g.set a (.lst [.int (k+1)])=g1 at e1 ga1
 obtain⟨n,hn⟩:∃n:Nat,(n:Int)=1+q%4:=⟨(1+q%4).toNat,by omega⟩
 obtain⟨m,hm⟩:∃m:Nat,(m:Int)=1+q/4%4:=⟨(1+q/4%4).toNat,by omega⟩
 obtain⟨rows,g2,e2,k2,ga2,hT2,t1,t2,t3⟩:=QjT ns a (k+1) n m g1 (by omega) (by omega) (by omega) (by omega) ga1 (by omega) (by omega)
 have hT:Tbl rows n m:=⟨by omega,by omega,t1,t2,t3⟩
 have al1:=Yq ga1
 obtain⟨g3,k3,e3,hM3⟩:=QlG (.ref g1.length) rows g2 hT2.rows (λr hr=>UU (QbE (by rw[t2 r hr];omega))) (UU (QbE (by omega))) (λr hr d hd=>(t3 r hr d hd).thing) (Qa (mVar 5) mNil) [some (.fl (ns.map .int)),some (.ref a),some (.int q),some (.int n),some (.int m),some (.ref g1.length),none,none,none,none,none,none,none] g2 rfl
 have hgood:=entOk.good (by omega) (by omega) t1 t2 t3
 rw[Uh hgood]at e3
 have hM3:=hM3 hgood
 have hMa:g2.length≠a:=by have:=Yq ga2;omega
 have hta:=hT2.mono k3 (by simp)
 have al2:=Yq ga2
 have hk3:(n:Int)*m<=16:=by
  have:n*m<=4*4:=Nat.mul_le_mul (by omega) (by omega)
  omega
 have hk0:0<=(n:Int)*m:=RI (by omega) (by omega)
 generalize (n:Int)*m=nm at ga2 hk3 hk0
 have ml3:=Yq hM3
 generalize g2.length=M at e3 hM3 hMa al2 ml3
 obtain⟨st,f,l,r,tl,tr,k4,g4,e4,⟨h0,h1⟩,hf,hl,hr,ol,or',zl,zr,b1,b2,kp4,ga4,l1,l2⟩:=QiF ns (states:=n) (sg:=m) (by omega) (by omega) (k3.at' _ _ (by simp) ga2) (by omega) (by omega)
 obtain⟨b,rfl⟩:=hf.fc
 have e5:QaQ [.tup [.int st,.str (fc b),.ref l,.ref r]] g4=.ok (shD st b (tl.map tkD) (tr.map tkD)) g4:=QgF hl hr
 have hM4:=kp4.at' M _ (by simpa using hMa) hM3
 have hT4:=hta.mono kp4 (by simpa using al1)
 generalize g1.length=t at e2 e3 hT4
 have al3:a<g3.length:=Yq (k3.at' _ _ (by simp) ga2)
 obtain⟨y9,y10,y11,g5,e6,k5⟩:=Qhg (b:=b) hT h0 h1 ol or' (by omega) (by omega) hT4 hM4 hl hr (some (.fl (ns.map .int))) (some (.ref a)) (some (.int q)) (some (.int n)) (some (.int m)) none
 obtain⟨p,mvs,g6,e7,k6,p6,z6⟩:=QgL (st:=st) (b:=b) (g:=g5) (tl:=tl) (tr:=tr) (by omega) (by omega)
 obtain⟨d,d1,d2⟩:=pick (xs:=(first7++mvs).map mvD) (i:=q/16%7) (by omega) (by simp[first7];omega)
 obtain⟨mv,_,rfl⟩:=U9.mp d2
 have e8:=Qab p6 (by omega) d1
 obtain⟨o,o1,_,o3⟩:=Qfa (b:=b) hT h0 h1 ol or' (by omega) (by omega) mv
 have k46:=k5.trans k6
 obtain⟨g7,k7,e9⟩:=o3 g6 M (.tup (tl.map tkD)) (.tup (tr.map tkD)) false false (k46.at' _ _ (by simp) hM4) rfl rfl
 have k47:=k46.trans k7
 obtain⟨g8,k8,e10⟩:=o3 g7 M (.ref l) (.ref r) true true (k47.at' _ _ (by simp) hM4) (Zt (k47.at' _ _ (by simp) hl)) (Zt (k47.at' _ _ (by simp) hr))
 have k48:=k47.trans k8
 obtain⟨g9,k9,ga9,e11⟩:=Qhe (b:=b) ns (k48.at' _ _ (by simp) ga4) (by omega) (by omega) (k48.at' _ _ (by simp) hM4) hT h0 h1 (k48.at' _ _ (by simp) hl) (k48.at' _ _ (by simp) hr) ol or' zl zr hMa (by omega) (by omega)
 have k49:Keeps [a] g4 g9:=k48.all.trans k9
 have e12:QaQ [.tup [.int st,.str (fc b),.ref l,.ref r]] g9=.ok (shD st b (tl.map tkD) (tr.map tkD)) g9:=QgF (k49.at' _ _ (by simp;omega) hl) (k49.at' _ _ (by simp;omega) hr)
 obtain⟨g10,e13,k10⟩:=Qnw (g:=g9) (Qi6 _ _ (QfM (st:=st) (b:=b) (YN ol) (YN or') (by simp;omega) (by simp;omega)))
 have hne:pNe (tD o) (tD o) g8=.ok (.bl false) g8:=by unfold pNe;rw[Qj0 g8 2 6 _ o1.tD];rfl
 refine⟨k4+1,g10,ZR rfl ?_,by omega,by omega,k10.at' _ _ (by simp) ga9⟩
 unfold Qe1
 generalize Yb 6=F at e13 ⊢
 refine Ql [some (.fl (ns.map .int)),some (.ref a),some (.int q),none,none,none,none,none,none,none,none,none,none] g1 (by simp[e1]) ?_
 refine Ql [some (.fl (ns.map .int)),some (.ref a),some (.int q),some (.int n),none,none,none,none,none,none,none,none,none] g1 (by simp[hn]) ?_
 refine Ql [some (.fl (ns.map .int)),some (.ref a),some (.int q),some (.int n),some (.int m),none,none,none,none,none,none,none,none] g1 (by simp[hm]) ?_
 refine Ql [some (.fl (ns.map .int)),some (.ref a),some (.int q),some (.int n),some (.int m),some (.ref t),none,none,none,none,none,none,none] g2 (ZG ((Zo (ds:=[.fl (ns.map .int),.ref a,.int n,.int m]) (g':=g1) rfl).trans e2)) ?_
 refine Ql [some (.fl (ns.map .int)),some (.ref a),some (.int q),some (.int n),some (.int m),some (.ref t),some (.ref M),none,none,none,none,none,none] g3 (ZG e3) ?_
 refine Ql [some (.fl (ns.map .int)),some (.ref a),some (.int q),some (.int n),some (.int m),some (.ref t),some (.ref M),some (.tup [.int st,.str (fc b),.ref l,.ref r]),none,none,none,none,none] g4 (by simp[e4]) ?_
 refine Ql [some (.fl (ns.map .int)),some (.ref a),some (.int q),some (.int n),some (.int m),some (.ref t),some (.ref M),some (.tup [.int st,.str (fc b),.ref l,.ref r]),some (shD st b (tl.map tkD) (tr.map tkD)),none,none,none,none] g4 (by simp[e5]) ?_
 refine Ql _ g5 e6 ?_
 refine Ql [some (.fl (ns.map .int)),some (.ref a),some (.int q),some (.int n),some (.int m),some (.ref t),some (.ref M),some (.tup [.int st,.str (fc b),.ref l,.ref r]),some (shD st b (tl.map tkD) (tr.map tkD)),y9,y10,y11,some (mvD mv)] g6 (by simp[e7,e8]) ?_
 refine Ql _ g8 (iff' g8 ?_ rfl) ?_
 ·unfold shD;simp[e9,e10,hne]
 refine Ql _ g9 (iff' g9 (by simp[e11]) rfl) ?_
 simp[e12,e13]
end
theorem law_true(ns:List Int)(hn:ns.length<=63):∃g',QjP [.fl (ns.map .int)] []=.ok (.bl true) g':=by
 have hc:(cutD (ns.map D.int) none (some 60)).length<=60:=by
  unfold cutD
  rw[Tc]
  show min (min (60:Int).toNat (ns.map D.int).length-0) _<=60
  have:(60:Int).toNat=60:=rfl
  omega
 generalize hm:(cutD (ns.map D.int) none (some 60)).length=m at hc
 have e1:mOp2 pAdd (mLit (.int 1)) (mOp2 QR (mOp1 pLen (QH (mVar 0) Qy (Q0 (mLit (.int 60))))) (mLit (.int 40))) [some (.fl (ns.map .int)),some (.ref 0),none] [.lst [.int 0]]=.ok (.int ((1+m/40:Nat):Int)) [.lst [.int 0],.lst (cutD (ns.map D.int) none (some 60))]:=by
  have el:mOp1 pLen (QH (mVar 0) Qy (Q0 (mLit (.int 60)))) [some (.fl (ns.map .int)),some (.ref 0),none] [.lst [.int 0]]=.ok (.int m) [.lst [.int 0],.lst (cutD (ns.map D.int) none (some 60))]:=by rw[<-hm];rfl
  refine Qw (x:=.int 1) (y:=.int ((m:Int) / 40)) (g1:=[.lst [.int 0]]) rfl (Qw el rfl (divP (by decide) (by decide))) ?_
  show Res.ok (D.int (1+(m:Int) / 40)) _=_
  rw[show(1+(m:Int) / 40)=((1+m/40:Nat):Int) by omega]
 obtain⟨σ',g',e2,⟨y,i1⟩,k',i2,i3,i4⟩:=QbB (t:=gSet 2) (body:=Qd9) (lo:=0) (n:=1+m/40) (σ:=[some (.fl (ns.map .int)),some (.ref 0),none]) (g:=[.lst [.int 0],.lst (cutD (ns.map D.int) none (some 60))])
  (λi σ g=>(∃y,σ=[some (.fl (ns.map .int)),some (.ref 0),y])/\∃k:Int,g[0]?=some (.lst [.int k])/\0<=k/\k<=50*i) ⟨⟨none,rfl⟩,0,rfl,by omega,by omega⟩ (λi σ g hi hQ=>by
   obtain⟨⟨y,i1⟩,k,i2,i3,i4⟩:=hQ
   subst i1
   obtain⟨k',g',e,b1,b2,b3⟩:=Qi7 ns i2 i3 (by omega)
   refine⟨[some (.fl (ns.map .int)),some (.ref 0),some (.int (0+i))],[some (.fl (ns.map .int)),some (.ref 0),some (.int (0+i))],g',rfl,?_,⟨_,rfl⟩,k',b3,by omega,by omega⟩
   unfold Qd9
   exact iff' g' (Qe4 (Zz (by rw[Zo (ds:=[.fl (ns.map .int),.ref 0]) (g':=g) rfl];exact e))) rfl)
 subst i1
 refine⟨g',ZR rfl ?_⟩
 show QlB [some (.fl (ns.map .int)),none,none] []=_
 unfold QlB
 exact Ql [some (.fl (ns.map .int)),some (.ref 0),none] [.lst [.int 0]] rfl (Ql _ g' ((QbD (JG e1 (QdC (by omega)))).trans e2) rfl)
end L3
namespace V
open PySem PySem.Spec PyProof.Rows L2 L3
theorem Q3{N P:List Str}{sc:Scope}(h1:sc.kind=.function:=by rfl)(h2:sc.isCoroutine=false:=by rfl)(h3:sc.isGenerator=false:=by rfl)(h4:N.Nodup:=by decide +kernel)(h5:N.take P.length=P:=by rfl)(h6:∀x∈P,sc.names.lookup x=some .local\/sc.names.lookup x=some .cell:=by decide +kernel)(h7:∀y∈sc.names,y.2≠.free:=by decide +kernel):FnScope N P sc:=⟨h1,h2,h3,h4,h5,h6,h7⟩
noncomputable def top(i:Nat):Stmt:=PySem.Challenge.pw_tapeproof_k41_moves_told.main.body.getD i (.Pass ⟨0,0,0,0⟩)
noncomputable abbrev QbU:Stmt:=top 13
abbrev Qhh:List Str:=["value"]
theorem QfQ:FnScope Qhh ["value"] (Qi QbU):=Q3
noncomputable abbrev QbV:Stmt:=top 14
abbrev Qhi:List Str:=["value", "many"]
theorem QfR:FnScope Qhi ["value", "many"] (Qi QbV):=Q3
noncomputable abbrev YK:Stmt:=top 15
abbrev Qce:List Str:=["value"]
theorem QbW:FnScope Qce ["value"] (Qi YK):=Q3
noncomputable abbrev QbX:Stmt:=top 20
abbrev Qhj:List Str:=["thing", "states", "signs"]
theorem QfS:FnScope Qhj ["thing", "states", "signs"] (Qi QbX):=Q3
noncomputable abbrev Jn:Stmt:=top 21
abbrev Qb7:List Str:=["rows", "states", "signs", "row"]
theorem YU:FnScope Qb7 ["rows"] (Qi Jn):=Q3
noncomputable abbrev ZA:Stmt:=Qld (top 22) 0
abbrev Qa5:List Str:=["self", "table", "rows"]
theorem Qaz:FnScope Qa5 ["self", "table"] (Qi ZA):=Q3
noncomputable abbrev Qbi:Stmt:=top 23
abbrev QfT:List Str:=["machine"]
theorem Qfb:FnScope QfT ["machine"] (Qi Qbi):=Q3
noncomputable abbrev QbY:Stmt:=top 24
abbrev Qhk:List Str:=["machine"]
theorem QfU:FnScope Qhk ["machine"] (Qi QbY):=Q3
noncomputable abbrev QbG:Stmt:=top 28
abbrev Qfc:List Str:=["thing"]
theorem Qhl:FnScope Qfc ["thing"] (Qi QbG):=Q3
noncomputable abbrev QbZ:Stmt:=top 29
abbrev Qhm:List Str:=["thing"]
theorem QfV:FnScope Qhm ["thing"] (Qi QbZ):=Q3
noncomputable abbrev YE:Stmt:=top 30
abbrev Qa6:List Str:=["tokens"]
theorem QcU:FnScope Qa6 ["tokens"] (Qi YE):=Q3
noncomputable abbrev JX:Stmt:=top 31
abbrev Qek:List Str:=["shape"]
theorem Qdf:FnScope Qek ["shape"] (Qi JX):=Q3
noncomputable abbrev Jy:Stmt:=top 32
abbrev Qdg:List Str:=["token"]
theorem QcV:FnScope Qdg ["token"] (Qi Jy):=Q3
noncomputable abbrev Qb0:Stmt:=top 38
abbrev Qhn:List Str:=["token"]
theorem QfW:FnScope Qhn ["token"] (Qi Qb0):=Q3
noncomputable abbrev YL:Stmt:=top 39
abbrev Qcf:List Str:=["machine", "shape", "signs", "tokens", "token"]
theorem Z1:FnScope Qcf ["machine", "shape"] (Qi YL):=Q3
noncomputable abbrev JY:Stmt:=top 40
abbrev Qel:List Str:=["shape"]
theorem Qdh:FnScope Qel ["shape"] (Qi JY):=Q3
noncomputable abbrev QbH:Stmt:=top 41
abbrev Qfd:List Str:=["word"]
theorem Qho:FnScope Qfd ["word"] (Qi QbH):=Q3
noncomputable abbrev JZ:Stmt:=top 42
abbrev Qem:List Str:=["shape", "tokens"]
theorem Qa7:FnScope Qem ["shape"] (Qi JZ):=Q3
noncomputable abbrev QaA:Stmt:=top 43
abbrev Qfe:List Str:=["shape", "token"]
theorem QbI:FnScope Qfe ["shape"] (Qi QaA):=Q3
noncomputable abbrev Yi:Stmt:=top 44
abbrev Qbj:List Str:=["shape", "tokens"]
theorem QaX:FnScope Qbj ["shape", "tokens"] (Qi Yi):=Q3
noncomputable abbrev QcW:Stmt:=top 45
abbrev Qi8:List Str:=["shape", "state", "way", "token", "rest"]
theorem QdI:FnScope Qi8 ["shape", "state", "way", "token"] (Qi QcW):=Q3
noncomputable abbrev QaB:Stmt:=top 46
abbrev Qff:List Str:=["machine", "shape", "token", "entry"]
theorem J0:FnScope Qff ["machine", "shape"] (Qi QaB):=Q3
noncomputable abbrev J4:Stmt:=top 47
abbrev Qen:List Str:=["machine", "state", "facing", "word", "cells", "at", "current", "step", "entry"]
theorem Zf:FnScope Qen ["machine", "state", "facing", "word"] (Qi J4):=Q3
noncomputable abbrev QaC:Stmt:=top 48
abbrev Qfg:List Str:=["machine", "shape", "many", "word"]
theorem J5:FnScope Qfg ["machine", "shape"] (Qi QaC):=Q3
noncomputable abbrev QaD:Stmt:=top 49
abbrev Qfh:List Str:=["shape", "many", "rest", "ones"]
theorem YV:FnScope Qfh ["shape"] (Qi QaD):=Q3
noncomputable abbrev Ja:Stmt:=top 50
abbrev QcX:List Str:=["tokens", "side", "at", "place"]
theorem Qac:FnScope QcX ["tokens", "side", "at"] (Qi Ja):=Q3
noncomputable abbrev Z5:Stmt:=top 51
abbrev QaY:List Str:=["tokens", "place", "rightwards", "many", "first", "behind"]
theorem Zx:FnScope QaY ["tokens", "place", "rightwards"] (Qi Z5):=Q3
noncomputable abbrev ZK:Stmt:=top 52
abbrev J7:List Str:=["tokens", "place", "rightwards", "many", "word", "sign", "at", "turned"]
theorem QJ:FnScope J7 ["tokens", "place", "rightwards"] (Qi ZK):=Q3
noncomputable abbrev Qb1:Stmt:=top 53
abbrev Qhp:List Str:=["tokens", "word", "side", "blank"]
theorem QcY:FnScope Qhp ["tokens", "word", "side"] (Qi Qb1):=Q3
noncomputable abbrev Qbk:Stmt:=top 54
abbrev QfX:List Str:=["tokens", "word", "side", "at", "place"]
theorem Qb8:FnScope QfX ["tokens", "word", "side", "at"] (Qi Qbk):=Q3
noncomputable abbrev Z6:Stmt:=top 55
abbrev QaZ:List Str:=["shape", "move", "side", "tokens", "put"]
theorem Q8:FnScope QaZ ["shape", "move"] (Qi Z6):=Q3
noncomputable abbrev QaE:Stmt:=top 56
abbrev Qfi:List Str:=["machine", "shape", "move"]
theorem Qeo:FnScope Qfi ["machine", "shape", "move"] (Qi QaE):=Q3
noncomputable abbrev QfY:Stmt:=top 57
abbrev Ql1:List Str:=["machine", "shape", "move"]
theorem Qkc:FnScope Ql1 ["machine", "shape", "move"] (Qi QfY):=Q3
noncomputable abbrev Qep:Stmt:=top 59
abbrev Qkd:List Str:=["_law_script", "_law_at_here", "_law_cell", "_law_m"]
theorem QbJ:FnScope Qkd ["_law_script", "_law_at_here"] (Qi Qep):=Q3
noncomputable abbrev QbK:Stmt:=top 60
abbrev Qeq:List Str:=["_law_found", "_law_due_here"]
theorem Qi9:FnScope Qeq ["_law_found", "_law_due_here"] (Qi QbK):=Q3
noncomputable abbrev Qcu:Stmt:=top 61
abbrev QgM:List Str:=["_law_script", "_law_at_here", "_law_signs", "_law_m", "_law_many", "_law_turn"]
theorem QaF:FnScope QgM ["_law_script", "_law_at_here", "_law_signs"] (Qi Qcu):=Q3
noncomputable abbrev QcZ:Stmt:=top 62
abbrev Qja:List Str:=["_law_script", "_law_at_here", "_law_states", "_law_signs", "_law_table_here", "_law_k", "_law_line", "_law_j", "_law_m", "_law_entry"]
theorem Yr:FnScope Qja ["_law_script", "_law_at_here", "_law_states", "_law_signs"] (Qi QcZ):=Q3
noncomputable abbrev QaU:Stmt:=top 63
abbrev QdJ:List Str:=["_law_script", "_law_at_here", "_law_signs", "_law_most", "_law_tokens_here", "_law_m", "_law_word_here", "_law_ones"]
theorem Jb:FnScope QdJ ["_law_script", "_law_at_here", "_law_signs", "_law_most"] (Qi QaU):=Q3
noncomputable abbrev Qc0:Stmt:=top 64
abbrev Qjb:List Str:=["_law_script", "_law_at_here", "_law_states", "_law_signs", "_law_m", "_law_left", "_law_right"]
theorem QaV:FnScope Qjb ["_law_script", "_law_at_here", "_law_states", "_law_signs"] (Qi Qc0):=Q3
noncomputable abbrev Qer:Stmt:=top 65
abbrev Qke:List Str:=["_law_shape_here", "_law_state", "_law_facing", "_law_left", "_law_right"]
theorem QaG:FnScope Qke ["_law_shape_here"] (Qi Qer):=Q3
noncomputable abbrev Qjc:Stmt:=top 66
abbrev Qnx:List Str:=["_law_caught", "_law_which", "_law_others"]
theorem Qes:FnScope Qnx ["_law_caught", "_law_which"] (Qi Qjc):=Q3
noncomputable abbrev J8:Stmt:=top 67
abbrev Qet:List Str:=["_law_m", "_law_shape_here", "_law_state", "_law_facing", "_law_left", "_law_right", "_law_bad", "_law_token", "_law_spot"]
theorem Q6:FnScope Qet ["_law_m", "_law_shape_here"] (Qi J8):=Q3
noncomputable abbrev Qc1:Stmt:=top 68
abbrev Qjd:List Str:=["_law_shape_here", "_law_state", "_law_facing", "_law_left", "_law_right"]
theorem JL:FnScope Qjd ["_law_shape_here"] (Qi Qc1):=Q3
noncomputable abbrev Qbl:Stmt:=top 69
abbrev QfZ:List Str:=["_law_table_here", "_law_shape_here", "_law_token", "_law_left", "_law_right", "_law_sign", "_law_entry"]
theorem ZV:FnScope QfZ ["_law_table_here", "_law_shape_here"] (Qi Qbl):=Q3
noncomputable abbrev Qeu:Stmt:=top 70
abbrev Qkf:List Str:=["_law_table_here", "_law_shape_here", "_law_state", "_law_facing", "_law_left", "_law_right", "_law_token", "_law_word_here", "_law_place", "_law_now", "_law_steps", "_law_entry", "_law_many"]
theorem Q9:FnScope Qkf ["_law_table_here", "_law_shape_here"] (Qi Qeu):=Q3
noncomputable abbrev QaW:Stmt:=top 71
abbrev QdK:List Str:=["_law_shape_here", "_law_state", "_law_facing", "_law_left", "_law_right", "_law_token", "_law_ones", "_law_less"]
theorem ZB:FnScope QdK ["_law_shape_here"] (Qi QaW):=Q3
noncomputable abbrev Qje:Stmt:=top 72
abbrev Qny:List Str:=["_law_side", "_law_tokens_here", "_law_number", "_law_spot"]
theorem Qf0:FnScope Qny ["_law_side", "_law_tokens_here", "_law_number"] (Qi Qje):=Q3
noncomputable abbrev Jo:Stmt:=top 73
abbrev Qb9:List Str:=["_law_tokens_here", "_law_spot", "_law_low", "_law_word_here", "_law_high", "_law_row"]
theorem YW:FnScope Qb9 ["_law_tokens_here", "_law_spot", "_law_low"] (Qi Jo):=Q3
noncomputable abbrev Qb2:Stmt:=top 74
abbrev Qhq:List Str:=["_law_tokens_here", "_law_spot", "_law_ahead", "_law_word_here", "_law_extra", "_law_many"]
theorem Jc:FnScope Qhq ["_law_tokens_here", "_law_spot", "_law_ahead"] (Qi Qb2):=Q3
noncomputable abbrev Jz:Stmt:=top 75
abbrev Qdi:List Str:=["_law_word_here", "_law_side", "_law_tokens_here", "_law_number", "_law_spot", "_law_outer", "_law_low"]
theorem ZW:FnScope Qdi ["_law_word_here", "_law_side", "_law_tokens_here", "_law_number"] (Qi Jz):=Q3
noncomputable abbrev J9:Stmt:=top 76
abbrev Qev:List Str:=["_law_word_here", "_law_side", "_law_tokens_here"]
theorem Qdj:FnScope Qev ["_law_word_here", "_law_side", "_law_tokens_here"] (Qi J9):=Q3
noncomputable abbrev Qf1:Stmt:=top 77
abbrev Ql2:List Str:=["_law_table_here", "_law_shape_here", "_law_move", "_law_state", "_law_facing", "_law_left", "_law_right", "_law_tokens_here", "_law_made"]
theorem Jp:FnScope Ql2 ["_law_table_here", "_law_shape_here", "_law_move"] (Qi Qf1):=Q3
noncomputable abbrev QbL:Stmt:=top 78
abbrev Qfj:List Str:=["_law_shape_here", "_law_moves_here", "_law_side", "_law_tokens_here", "_law_number"]
theorem Y0:FnScope Qfj ["_law_shape_here"] (Qi QbL):=Q3
noncomputable abbrev Qew:Stmt:=top 79
abbrev Qkg:List Str:=["_law_machine", "_law_shape_here", "_law_move", "_law_caught", "_law_made", "e"]
theorem JM:FnScope Qkg ["_law_machine", "_law_shape_here", "_law_move"] (Qi Qew):=Q3
noncomputable abbrev Qbm:Stmt:=top 80
abbrev Qf2:List Str:=["_law_script", "_law_at_here", "_law_machine", "_law_shape_here", "_law_m", "_law_bad", "_law_state", "_law_facing", "_law_left", "_law_right", "_law_signs", "_law_strange_here"]
theorem QU:FnScope Qf2 ["_law_script", "_law_at_here", "_law_machine", "_law_shape_here"] (Qi Qbm):=Q3
noncomputable abbrev Qc2:Stmt:=top 81
abbrev Qjf:List Str:=["_law_script", "_law_at_here", "_law_m", "_law_states", "_law_signs", "_law_table_here", "_law_machine", "_law_fresh", "_law_shape_here", "_law_move", "_law_made", "_law_due_here", "_law_first"]
theorem Zh:FnScope Qjf ["_law_script", "_law_at_here"] (Qi Qc2):=Q3
noncomputable abbrev Qkh:Stmt:=top 82
abbrev QoA:List Str:=["_law_script", "_law_at_here", "_law_k"]
theorem Qjg:FnScope QoA ["_law_script"] (Qi Qkh):=Q3
def UF(K:Frag)(mg:Str->Option Value)(x:Str)(st:Stmt):Prop:=∃f fd,Fun K x x st f fd/\mg x=some (.ref f)
theorem _root_.L2.Room.m{j k:Nat}{A:Around}(h:Room k A)(e:j<=k:=by omega):Room j A:=h.mono e
theorem Q7{P:Program}{w:World}{K:Frag}{mg:Str->Option Value}{base:Heap}{ca:Nat->Addr}{x:Str}{st:Stmt}{N ps:List Str}{k n j:Nat}{m:MS}(u:UF K mg x st)(S:FnScope N ps (Qi st))(h:∀(f:Addr) (cdv:Value) (A:Around) (outer:List Env) (s:Shared) (H:Hp) (E:XK),Room k (A.deeper (envOfC x (Qi st) s.heap.objs.size f cdv))->PSs3 ca (cxOf (CXW P w ca) P w K mg base N x (Qi st) f cdv A outer s H E) (Y3 st) m)(hj:ps.length=j:=by rfl)(hn:N.length-ps.length=n:=by rfl)(hb:∀(kV doc pm:Value) (an:Option Addr) (cdv ct:Value) (us:List Value),us.length=ps.length->bindArgs (fnOf x x (Qae st) (Y3 st) (Qi st) .none kV doc pm an cdv ct) ⟨us,[]⟩=pure (ps.zip us):=by intro _ _ _ _ _ _ us hl;first|(obtain⟨_,rfl⟩:=L3.len1 hl;rfl)|(obtain⟨_,_,rfl⟩:=L3.len2 hl;rfl)|(obtain⟨_,_,_,rfl⟩:=L3.len3 hl;rfl)|(obtain⟨_,_,_,_,rfl⟩:=L3.len4 hl;rfl)):FnH P w K mg base ca x (k+1) j (mDef j n m):=by
 obtain⟨f,fd,F,hm⟩:=u
 exact⟨⟨f,fd,ps,Qjx F S hj hn (h f),hm,F.kp,F.binds hb⟩,Qfw _ _ _⟩
structure Zk(K:Frag)(mg:Str->Option Value)(ca:Nat->Addr):Prop where
 z_ValueError:mg "ValueError" = none
 z_all:mg "all" = none
 z_bool:mg "bool" = none
 z_dict:mg "dict" = none
 z_int:mg "int" = none
 z_isinstance:mg "isinstance" = none
 z_len:mg "len" = none
 z_list:mg "list" = none
 z_max:mg "max" = none
 z_min:mg "min" = none
 z_range:mg "range" = none
 z_str:mg "str" = none
 z_tuple:mg "tuple" = none
 z_zip:mg "zip" = none
 g_BLANK:∃k,mg "BLANK" = some (.int 0 k)
 g_LEFT:∃k,mg "LEFT" = some (.str "l" k)
 g_MANY:∃k,mg "MANY" = some (.str "many" k)
 g_MOST_STEPS_OVER:∃k,mg "MOST_STEPS_OVER" = some (.int 1000 k)
 g_ONE:∃k,mg "ONE" = some (.str "one" k)
 g_OPEN:∃u v,mg "OPEN" = some u/\L2.RelV v u/\∀μ H,Den K μ H v (.tup [(.str "open")])
 g_OVER:∃u v,mg "OVER" = some u/\L2.RelV v u/\∀μ H,Den K μ H v (.tup [(.str "over")])
 g_RIGHT:∃k,mg "RIGHT" = some (.str "r" k)
 g_STEP:∃u v,mg "STEP" = some u/\L2.RelV v u/\∀μ H,Den K μ H v (.tup [(.str "step")])
 t_TapeError:mg "TapeError" = some (.ref (ca 0))/\CatX K ca (ca 0) [0,1,2,3,4,5,6,7,8,9,10] []
 x_NoMachine:mg "NoMachine" = some (.ref (ca 1))/\IsX K ca (.ref (ca 1)) [0,1,2,3,4,5,6,7,8,9,10] [1]
 x_NoMove:mg "NoMove" = some (.ref (ca 8))/\IsX K ca (.ref (ca 8)) [0,1,2,3,4,5,6,7,8,9,10] [8]
 x_NoNames:mg "NoNames" = some (.ref (ca 2))/\IsX K ca (.ref (ca 2)) [0,1,2,3,4,5,6,7,8,9,10] [2]
 x_NoNumber:mg "NoNumber" = some (.ref (ca 3))/\IsX K ca (.ref (ca 3)) [0,1,2,3,4,5,6,7,8,9,10] [3]
 x_NoShape:mg "NoShape" = some (.ref (ca 7))/\IsX K ca (.ref (ca 7)) [0,1,2,3,4,5,6,7,8,9,10] [7]
 x_NoShot:mg "NoShot" = some (.ref (ca 4))/\IsX K ca (.ref (ca 4)) [0,1,2,3,4,5,6,7,8,9,10] [4]
 x_NoStretches:mg "NoStretches" = some (.ref (ca 5))/\IsX K ca (.ref (ca 5)) [0,1,2,3,4,5,6,7,8,9,10] [5]
 x_NoText:mg "NoText" = some (.ref (ca 10))/\IsX K ca (.ref (ca 10)) [0,1,2,3,4,5,6,7,8,9,10] [10]
 x_NoWidth:mg "NoWidth" = some (.ref (ca 9))/\IsX K ca (.ref (ca 9)) [0,1,2,3,4,5,6,7,8,9,10] [9]
 x_TooLong:mg "TooLong" = some (.ref (ca 6))/\IsX K ca (.ref (ca 6)) [0,1,2,3,4,5,6,7,8,9,10] [6]
 x_ValueError:bootBuiltins "ValueError" = some (.type "ValueError")/\IsX K ca (.type "ValueError") [0,1,2,3,4,5,6,7,8,9,10] [0,1,2,3,4,5,6,7,8,9,10]
 e_NoMachine:RaH K mg ca 1 "NoMachine"
 e_NoMove:RaH K mg ca 8 "NoMove"
 e_NoShape:RaH K mg ca 7 "NoShape"
 a_table:FldOk K ca [11] "table"
 u0:UF K mg "is_whole" QbU
 u1:UF K mg "is_below" QbV
 u2:UF K mg "is_from_nought" YK
 u3:UF K mg "is_entry" QbX
 u4:UF K mg "check_rows" Jn
 u5:∃f fd,Fun K "__init__" "Machine.__init__" ZA f fd/\Mk K (ca 11) f/\mg "Machine" = some (.ref (ca 11))
 u6:UF K mg "states_of" Qbi
 u7:UF K mg "signs_of" QbY
 u8:UF K mg "is_word" QbG
 u9:UF K mg "is_token" QbZ
 u10:UF K mg "check_tokens" YE
 u11:UF K mg "check_shape" JX
 u12:UF K mg "raised_token" Jy
 u13:UF K mg "signs_in" Qb0
 u14:UF K mg "check_shape_of" YL
 u15:UF K mg "with_tuples" JY
 u16:UF K mg "ones_of" QbH
 u17:UF K mg "token_ahead" JZ
 u18:UF K mg "many_ahead" QaA
 u19:UF K mg "in_place_of_ahead" Yi
 u20:UF K mg "gone_on" QcW
 u21:UF K mg "after_step" QaB
 u22:UF K mg "word_behind" J4
 u23:UF K mg "after_over" QaC
 u24:UF K mg "after_open" QaD
 u25:UF K mg "place_of_many" Ja
 u26:UF K mg "with_ones_taken_in" Z5
 u27:UF K mg "with_one_brought_over" ZK
 u28:UF K mg "with_end" Qb1
 u29:UF K mg "with_many" Qbk
 u30:UF K mg "after_put_together" Z6
 u31:UF K mg "after_move" QaE
 u32:UF K mg "moved" QfY
 u33:UF K mg "_law_next" Qep
 u34:UF K mg "_law_same" QbK
 u35:UF K mg "_law_word" Qcu
 u36:UF K mg "_law_table" QcZ
 u37:UF K mg "_law_tokens" QaU
 u38:UF K mg "_law_shape" Qc0
 u39:UF K mg "_law_kept" Qer
 u40:UF K mg "_law_is" Qjc
 u41:UF K mg "_law_bad_shape" J8
 u42:UF K mg "_law_taken" Qc1
 u43:UF K mg "_law_stepped" Qbl
 u44:UF K mg "_law_over" Qeu
 u45:UF K mg "_law_opened" QaW
 u46:UF K mg "_law_at" Qje
 u47:UF K mg "_law_gathered" Jo
 u48:UF K mg "_law_passed" Qb2
 u49:UF K mg "_law_many_moved" Jz
 u50:UF K mg "_law_end_moved" J9
 u51:UF K mg "_law_due" Qf1
 u52:UF K mg "_law_moves" QbL
 u53:UF K mg "_law_told" Qew
 u54:UF K mg "_law_strange" Qbm
 u55:UF K mg "_law_round" Qc2
 u56:UF K mg "law" Qkh
section
seal PE3 PT3 PW3 PA3 PS3 PSs3 PG3 PI3
variable{P:Program}{w:World}{K:Frag}{mg:Str->Option Value}{base:Heap}{ca:Nat->Addr}
theorem Qc3(Z:Zk K mg ca):FnH P w K mg base ca "is_whole" 1 1 JB:=Q7 Z.u0 QfQ λ_ _ _ _ _ _ _ hr=>(Qh (Qv (Qaf (Yt .int Z.z_isinstance Z.z_int Qky (Qb 0)) (Qcc (QmP (Yt .bool Z.z_isinstance Z.z_bool Qip (Qb 0)))))))
theorem Jd(Z:Zk K mg ca):FnH P w K mg base ca "is_below" 2 2 QO:=Q7 Z.u1 QfR λ_ _ _ _ _ _ _ hr=>(Qh (Qv (Qaf (Qs (Qc3 Z) hr.m (Qc (Qb 0) Qf)) (Qcc (Qm1 Qe (Qb 0) (Qb 1))))))
theorem Z2(Z:Zk K mg ca):FnH P w K mg base ca "is_from_nought" 2 1 QB:=Q7 Z.u2 QbW λ_ _ _ _ _ _ _ hr=>(Qh (Qv (Qaf (Qs (Qc3 Z) hr.m (Qc (Qb 0) Qf)) (Qcc (r_ge (Qb 0) Qe)))))
theorem Qf3(Z:Zk K mg ca):FnH P w K mg base ca "is_entry" 3 3 YX:=Q7 Z.u3 QfS λ_ _ _ _ _ _ _ hr=>(Qd (r_if (Qbt (Qb 0) Zr) (Qh (Qv r_bl)) Qp)
 (Qd (r_if (r_w (YQ (YM (ZD (Yt .tuple Z.z_isinstance Z.z_tuple Jh (Qb 0)))) (Z7 (Jv hr (Zs Z.z_len (Qb 0)) Qe)))) (Qh (Qv r_bl)) Qp)
 (Qh (Qv (Qaf (Qs (Jd Z) hr.m (Qc (Qg (Qb 0) Qe) (Qc (Qb 2) Qf))) (Qaf (r_in (Qg (Qb 0) Qe) (Qq (Qc (Q2 Z.g_LEFT) (Qc (Q2 Z.g_RIGHT) Qf)))) (Qcc (Qs (Jd Z) hr.m (Qc (Qg (Qb 0) Qe) (Qc (Qb 1) Qf))))))))))
theorem Qex(Z:Zk K mg ca):FnH P w K mg base ca "check_rows" 4 1 Yk:=Q7 Z.u4 YU λ_ _ _ _ _ _ _ hr=>(Qd (r_if (QY hr (Zs Z.z_len (Qb 0)) Qe) (Qh (Zl Z.e_NoMachine hr.hd (Qc Qn Qf))) Qp)
 (Qd (Qu 1 YU.nd (Zs Z.z_len (Qb 0)))
 (Qd (Qu 2 YU.nd (Zs Z.z_len (Qg (Qb 0) Qe)))
 (Qd (r_if (QY hr (Qb 2) Qe) (Qh (Zl Z.e_NoMachine hr.hd (Qc Qn Qf))) Qp)
 (Qh (Qdc rfl (Yd (Qb 0)) (QG 3 YU.nd) (Qd (r_if (Jv hr (Zs Z.z_len (Qb 3)) (Qb 2)) (Qh (Zl Z.e_NoMachine hr.hd (Qc Qn Qf))) Qp)
 (Qh (r_if (YM (ZD (Qih rfl Z.z_all (Qam (ZM (Nb:=["thing", "states", "signs"]) (no:=1) (cap:=[1,2]) (N:=Qb7) (sc:=Qi Jn) rfl rfl (by decide +kernel)) rfl (Yd (Qb 3)) (λcl C s3 H3 ex=>⟨(QG 0 (show List.Nodup (["thing", "states", "signs"]:List Str) by decide +kernel)),QcD,(Qs (Qf3 Z) hr.m (Qc (Qb 0) (Qc (Qb 1) (Qc (Qb 2) Qf))))⟩))))) (Qh (Zl Z.e_NoMachine hr.hd (Qc Qn Qf))) Qp)))))))))
theorem Qc4(Z:Zk K mg ca):MkH P w K mg base ca 11 "Machine" 5 2 Z8:=by
 obtain⟨f,fd,F,hm⟩:=Z.u5
 exact⟨⟨f,fd,["self", "table"],Qjx F Qaz rfl rfl (λcdv A outer s H E hr=>(Qd (Qu 2 Qaz.nd (Ye Z.z_tuple (Qam (ZM (Nb:=["row"]) (no:=1) (cap:=[]) (N:=Qa5) (sc:=Qi ZA) rfl rfl (by decide +kernel)) rfl (Yd (Qb 1)) (λcl C s3 H3 ex=>⟨(QG 0 (show List.Nodup (["row"]:List Str) by decide +kernel)),QcD,(Ye Z.z_tuple (Qb 0))⟩))))
 (Qd (Qai (Qs (Qex Z) hr.m (Qc (Qb 2) Qf)))
 (Qh (Qh0 (Qb 0) (Qb 2) Z.a_table))))),hm.1,hm.2,F.binds (ps:=["self", "table"]) (λ_ _ _ _ _ _ us hl=>by obtain⟨_,_,rfl⟩:=L3.len2 hl;rfl)⟩,Qfw _ _ _⟩
theorem Qfk(Z:Zk K mg ca):FnH P w K mg base ca "states_of" 1 1 JQ:=Q7 Z.u6 Qfb λ_ _ _ _ _ _ _ hr=>(Qh (Qv (Zs Z.z_len (Qdv (Qb 0) Z.a_table))))
theorem Qf4(Z:Zk K mg ca):FnH P w K mg base ca "signs_of" 1 1 QaO:=Q7 Z.u7 QfU λ_ _ _ _ _ _ _ hr=>(Qh (Qv (Zs Z.z_len (Qg (Qdv (Qb 0) Z.a_table) Qe))))
theorem Qhr(Z:Zk K mg ca):FnH P w K mg base ca "is_word" 3 1 JC:=Q7 Z.u8 Qhl λ_ _ _ _ _ _ _ hr=>(Qh (Qv (Qaf (Yt .tuple Z.z_isinstance Z.z_tuple Jh (Qb 0)) (Qaf (r_gt (Zs Z.z_len (Qb 0)) Qe) (Qcc (Qih rfl Z.z_all (Qam (ZM (Nb:=["sign"]) (no:=1) (cap:=[]) (N:=Qfc) (sc:=Qi QbG) rfl rfl (by decide +kernel)) rfl (Yd (Qb 0)) (λcl C s3 H3 ex=>⟨(QG 0 (show List.Nodup (["sign"]:List Str) by decide +kernel)),QcD,(Qs (Z2 Z) hr.m (Qc (Qb 0) Qf))⟩))))))))
theorem Qf5(Z:Zk K mg ca):FnH P w K mg base ca "is_token" 4 1 Yl:=Q7 Z.u9 QfV λ_ _ _ _ _ _ _ hr=>(Qd (r_if (YM (ZD (Yt .tuple Z.z_isinstance Z.z_tuple Jh (Qb 0)))) (Qh (Qv r_bl)) Qp)
 (Qd (r_if (QY hr (Zs Z.z_len (Qb 0)) Qe) (Qh (Qv (Qaf (r_eq hr (Qg (Qb 0) Qe) (Q2 Z.g_ONE)) (Qcc (Qs (Z2 Z) hr.m (Qc (Qg (Qb 0) Qe) Qf)))))) Qp)
 (Qh (Qv (Qaf (r_eq hr (Zs Z.z_len (Qb 0)) Qe) (Qaf (r_eq hr (Qg (Qb 0) Qe) (Q2 Z.g_MANY)) (Qaf (Qs (Qhr Z) hr.m (Qc (Qg (Qb 0) Qe) Qf)) (Qcc (Qs (Z2 Z) hr.m (Qc (Qg (Qb 0) Qe) Qf))))))))))
theorem QaH(Z:Zk K mg ca):FnH P w K mg base ca "check_tokens" 5 1 Qz:=Q7 Z.u10 QcU λ_ _ _ _ _ _ _ hr=>(Qh (r_if (r_w (YQ (YM (ZD (QlA Z.z_isinstance Z.z_list Z.z_tuple (Qb 0)))) (Z7 (YM (ZD (Qih rfl Z.z_all (Qam (ZM (Nb:=["thing"]) (no:=1) (cap:=[]) (N:=Qa6) (sc:=Qi YE) rfl rfl (by decide +kernel)) rfl (Yd (Qb 0)) (λcl C s3 H3 ex=>⟨(QG 0 (show List.Nodup (["thing"]:List Str) by decide +kernel)),QcD,(Qs (Qf5 Z) hr.m (Qc (Qb 0) Qf))⟩)))))))) (Qh (Zl Z.e_NoShape hr.hd (Qc Qn Qf))) Qp))
theorem Qdk(Z:Zk K mg ca):FnH P w K mg base ca "check_shape" 6 1 ZY:=Q7 Z.u11 Qdf λ_ _ _ _ _ _ _ hr=>(Qd (r_if (r_w (YQ (YM (ZD (Yt .tuple Z.z_isinstance Z.z_tuple Jh (Qb 0)))) (Z7 (Jv hr (Zs Z.z_len (Qb 0)) Qe)))) (Qh (Zl Z.e_NoShape hr.hd (Qc Qn Qf))) Qp)
 (Qd (r_if (YM (ZD (Qs (Z2 Z) hr.m (Qc (Qg (Qb 0) Qe) Qf)))) (Qh (Zl Z.e_NoShape hr.hd (Qc Qn Qf))) Qp)
 (Qd (r_if (Qd2 (Qg (Qb 0) Qe) (Qq (Qc (Q2 Z.g_LEFT) (Qc (Q2 Z.g_RIGHT) Qf)))) (Qh (Zl Z.e_NoShape hr.hd (Qc Qn Qf))) Qp)
 (Qd (Qai (Qs (QaH Z) hr.m (Qc (Qg (Qb 0) Qe) Qf)))
 (Qh (Qai (Qs (QaH Z) hr.m (Qc (Qg (Qb 0) Qe) Qf))))))))
theorem Qc5(Z:Zk K mg ca):FnH P w K mg base ca "raised_token" 1 1 Z9:=Q7 Z.u12 QcV λ_ _ _ _ _ _ _ hr=>(Qh (Qv (Qag (QY hr (Qg (Qb 0) Qe) (Q2 Z.g_ONE)) (Qb 0) (Qq (Qc (Q2 Z.g_MANY) (Qc (Qg (Qb 0) Qe) (Qc (QQ (Qg (Qb 0) Qe) Qe) Qf)))))))
theorem Qf6(Z:Zk K mg ca):FnH P w K mg base ca "signs_in" 1 1 YY:=Q7 Z.u13 QfW λ_ _ _ _ _ _ _ hr=>(Qh (Qv (Qag (QY hr (Qg (Qb 0) Qe) (Q2 Z.g_ONE)) (Qq (Qc (Qg (Qb 0) Qe) Qf)) (Qg (Qb 0) Qe))))
theorem Qb3(Z:Zk K mg ca):FnH P w K mg base ca "check_shape_of" 7 2 QW:=Q7 Z.u14 Z1 λ_ _ _ _ _ _ _ hr=>(Qd (Qai (Qs (Qdk Z) hr.m (Qc (Qb 1) Qf)))
 (Qd (r_if (Qli (Qg (Qb 1) Qe) (Qs (Qfk Z) hr.m (Qc (Qb 0) Qf))) (Qh (Zl Z.e_NoShape hr.hd (Qc Qn Qf))) Qp)
 (Qd (Qu 2 Z1.nd (Qs (Qf4 Z) hr.m (Qc (Qb 0) Qf)))
 (Qh (Qdc rfl (Yd (QI (Qb 1) (QV Qe) QD)) (QG 3 Z1.nd) (Qh (Qdc rfl (Yd (Qb 3)) (QG 4 Z1.nd) (Qh (r_if (Qli (Qm9 rfl Z.z_max (Qs (Qf6 Z) hr.m (Qc (Qb 4) Qf))) (Qb 2)) (Qh (Zl Z.e_NoShape hr.hd (Qc Qn Qf))) Qp)))))))))
theorem Qdl(Z:Zk K mg ca):FnH P w K mg base ca "with_tuples" 1 1 YS:=Q7 Z.u15 Qdh λ_ _ _ _ _ _ _ hr=>(Qh (Qv (Qq (Qc (Qg (Qb 0) Qe) (Qc (Qg (Qb 0) Qe) (Qc (Ye Z.z_tuple (Qg (Qb 0) Qe)) (Qc (Ye Z.z_tuple (Qg (Qb 0) Qe)) Qf)))))))
theorem QdL(Z:Zk K mg ca):FnH P w K mg base ca "ones_of" 1 1 Qbw:=Q7 Z.u16 Qho λ_ _ _ _ _ _ _ hr=>(Qh (Qv (Ye Z.z_tuple (Qam (ZM (Nb:=["sign"]) (no:=1) (cap:=[]) (N:=Qfd) (sc:=Qi QbH) rfl rfl (by decide +kernel)) rfl (Yd (Qb 0)) (λcl C s3 H3 ex=>⟨(QG 0 (show List.Nodup (["sign"]:List Str) by decide +kernel)),QcD,(Qq (Qc (Q2 Z.g_ONE) (Qc (Qb 0) Qf)))⟩)))))
theorem Qa8(Z:Zk K mg ca):FnH P w K mg base ca "token_ahead" 1 1 ZZ:=Q7 Z.u17 Qa7 λ_ _ _ _ _ _ _ hr=>(Qd (Qu 1 Qa7.nd (Qag (QY hr (Qg (Qb 0) Qe) (Q2 Z.g_RIGHT)) (QI (Qg (Qb 0) Qe) QD (QV Qe)) (QI (Qg (Qb 0) Qe) (QV (Ju Qe)) QD)))
 (Qh (Qv (Qag (Qlh (Zs Z.z_len (Qb 1)) Qe) (Qg (Qb 1) Qe) Zr))))
theorem QbM(Z:Zk K mg ca):FnH P w K mg base ca "many_ahead" 2 1 Ym:=Q7 Z.u18 QbI λ_ _ _ _ _ _ _ hr=>(Qd (Qu 1 QbI.nd (Qs (Qa8 Z) hr.m (Qc (Qb 0) Qf)))
 (Qd (r_if (r_w (YQ (Qbt (Qb 1) Zr) (Z7 (Jv hr (Qg (Qb 1) Qe) (Q2 Z.g_MANY))))) (Qh (Zl Z.e_NoMove hr.hd (Qc Qn Qf))) Qp)
 (Qh (Qv (Qb 1)))))
theorem YO(Z:Zk K mg ca):FnH P w K mg base ca "in_place_of_ahead" 1 2 Q5:=Q7 Z.u19 QaX λ_ _ _ _ _ _ _ hr=>(Qd (r_if (QY hr (Qg (Qb 0) Qe) (Q2 Z.g_RIGHT)) (Qh (Qv (Qq (Qc (Qg (Qb 0) Qe) (Qc (Q2 Z.g_RIGHT) (Qc (Qg (Qb 0) Qe) (Qc (QQ (Qb 1) (QI (Qg (Qb 0) Qe) (QV Qe) QD)) Qf))))))) Qp)
 (Qh (Qv (Qq (Qc (Qg (Qb 0) Qe) (Qc (Q2 Z.g_LEFT) (Qc (QQ (QI (Qg (Qb 0) Qe) QD (QV (Ju Qe))) (Qb 1)) (Qc (Qg (Qb 0) Qe) Qf))))))))
theorem QdM(Z:Zk K mg ca):FnH P w K mg base ca "gone_on" 2 4 Qaq:=Q7 Z.u20 QdI λ_ _ _ _ _ _ _ hr=>(Qd (Qu 4 QdI.nd (Qs (YO Z) hr.m (Qc (Qb 0) (Qc (Qq Qf) Qf))))
 (Qd (r_if (QY hr (Qb 2) (Q2 Z.g_RIGHT)) (Qh (Qv (Qq (Qc (Qb 1) (Qc (Qb 2) (Qc (QQ (Qg (Qb 4) Qe) (Qq (Qc (Qb 3) Qf))) (Qc (Qg (Qb 4) Qe) Qf))))))) Qp)
 (Qh (Qv (Qq (Qc (Qb 1) (Qc (Qb 2) (Qc (Qg (Qb 4) Qe) (Qc (QQ (Qq (Qc (Qb 3) Qf)) (Qg (Qb 4) Qe)) Qf)))))))))
theorem Qey(Z:Zk K mg ca):FnH P w K mg base ca "after_step" 3 2 Yn:=Q7 Z.u21 J0 λ_ _ _ _ _ _ _ hr=>(Qd (Qu 2 J0.nd (Qs (Qa8 Z) hr.m (Qc (Qb 1) Qf)))
 (Qd (r_if (r_w (Qgj (Qgr (Qb 2) Zr) (QdT (QY hr (Qg (Qb 2) Qe) (Q2 Z.g_MANY))))) (Qh (Zl Z.e_NoMove hr.hd (Qc Qn Qf))) Qp)
 (Qd (Qu 3 J0.nd (Qg (Qg (Qdv (Qb 0) Z.a_table) (Qg (Qb 1) Qe)) (Qag (Qbt (Qb 2) Zr) (Qio Z.g_BLANK) (Qg (Qb 2) Qe))))
 (Qd (r_if (Qbt (Qb 3) Zr) (Qh (Zl Z.e_NoMove hr.hd (Qc Qn Qf))) Qp)
 (Qh (Qv (Qs (QdM Z) hr.m (Qc (Qb 1) (Qc (Qg (Qb 3) Qe) (Qc (Qg (Qb 3) Qe) (Qc (Qq (Qc (Q2 Z.g_ONE) (Qc (Qg (Qb 3) Qe) Qf))) Qf)))))))))))
theorem Qdm(Z:Zk K mg ca):FnH P w K mg base ca "word_behind" 3 4 JS:=Q7 Z.u22 Zf λ_ _ _ _ _ _ _ hr=>(Qd (Qu 4 Zf.nd (Qdw Z.z_list (Qb 3)))
 (Qd (Qu 5 Zf.nd (Qag (QY hr (Qb 2) (Q2 Z.g_RIGHT)) Qe (Qbb (Zs Z.z_len (Qb 4)) Qe)))
 (Qd (Qu 6 Zf.nd (Qb 1))
 (Qd (Qdc rfl (QaN Z.z_range (Qio Z.g_MOST_STEPS_OVER)) (QG 7 Zf.nd) (Qd (Qu 8 Zf.nd (Qg (Qg (Qdv (Qb 0) Z.a_table) (Qb 6)) (Qg (Qb 4) (Qb 5))))
 (Qd (r_if (Qbt (Qb 8) Zr) (Qh (Qv Zr)) Qp)
 (Qd (QdU (Qb 4) (Qb 5) (Qg (Qb 8) Qe))
 (Qd (Qu 5 Zf.nd (Qag (QY hr (Qg (Qb 8) Qe) (Q2 Z.g_RIGHT)) (QQ (Qb 5) Qe) (Qbb (Qb 5) Qe)))
 (Qd (Qu 6 Zf.nd (Qg (Qb 8) Qe))
 (Qh (r_if (YM (ZD (Qs (Jd Z) hr.m (Qc (Qb 5) (Qc (Zs Z.z_len (Qb 4)) Qf))))) (Qh (Qv (Qag (r_w (Qgj (QY hr (Qg (Qb 8) Qe) (Qb 2)) (QdT (QY hr (Qb 6) (Qb 1))))) (Ye Z.z_tuple (Qb 4)) Zr))) Qp))))))))
 (Qh (Qv Zr))))))
theorem Qez(Z:Zk K mg ca):FnH P w K mg base ca "after_over" 4 2 Yo:=Q7 Z.u23 J5 λ_ _ _ _ _ _ _ hr=>(Qd (Qu 2 J5.nd (Qs (QbM Z) hr.m (Qc (Qb 1) Qf)))
 (Qd (Qu 3 J5.nd (Qs (Qdm Z) hr.m (Qc (Qb 0) (Qc (Qg (Qb 1) Qe) (Qc (Qg (Qb 1) Qe) (Qc (Qg (Qb 2) Qe) Qf))))))
 (Qd (r_if (Qbt (Qb 3) Zr) (Qh (Zl Z.e_NoMove hr.hd (Qc Qn Qf))) Qp)
 (Qh (Qv (Qs (QdM Z) hr.m (Qc (Qb 1) (Qc (Qg (Qb 1) Qe) (Qc (Qg (Qb 1) Qe) (Qc (Qq (Qc (Q2 Z.g_MANY) (Qc (Qb 3) (Qc (Qg (Qb 2) Qe) Qf)))) Qf))))))))))
theorem QeA(Z:Zk K mg ca):FnH P w K mg base ca "after_open" 3 1 ZI:=Q7 Z.u24 YV λ_ _ _ _ _ _ _ hr=>(Qd (Qu 1 YV.nd (Qs (QbM Z) hr.m (Qc (Qb 0) Qf)))
 (Qd (r_if (QdV (Qg (Qb 1) Qe) Qe) (Qh (Zl Z.e_NoMove hr.hd (Qc Qn Qf))) Qp)
 (Qd (Qu 2 YV.nd (Qq (Qc (Qq (Qc (Q2 Z.g_MANY) (Qc (Qg (Qb 1) Qe) (Qc (Qbb (Qg (Qb 1) Qe) Qe) Qf)))) Qf)))
 (Qd (Qu 3 YV.nd (Qs (QdL Z) hr.m (Qc (Qg (Qb 1) Qe) Qf)))
 (Qh (Qv (Qs (YO Z) hr.m (Qc (Qb 0) (Qc (Qag (QY hr (Qg (Qb 0) Qe) (Q2 Z.g_RIGHT)) (QQ (Qb 3) (Qb 2)) (QQ (Qb 2) (Qb 3))) Qf)))))))))
theorem Qcg(Z:Zk K mg ca):FnH P w K mg base ca "place_of_many" 3 3 QS:=Q7 Z.u25 Qac λ_ _ _ _ _ _ _ hr=>(Qd (r_if (YM (ZD (Qs (Jd Z) hr.m (Qc (Qb 2) (Qc (Zs Z.z_len (Qb 0)) Qf))))) (Qh (Zl Z.e_NoMove hr.hd (Qc Qn Qf))) Qp)
 (Qd (Qu 3 Qac.nd (Qag (QY hr (Qb 1) (Q2 Z.g_LEFT)) (Qb 2) (Qbb (Qbb (Zs Z.z_len (Qb 0)) Qe) (Qb 2))))
 (Qd (r_if (Jv hr (Qg (Qg (Qb 0) (Qb 3)) Qe) (Q2 Z.g_MANY)) (Qh (Zl Z.e_NoMove hr.hd (Qc Qn Qf))) Qp)
 (Qh (Qv (Qb 3))))))
theorem QaI(Z:Zk K mg ca):FnH P w K mg base ca "with_ones_taken_in" 2 3 Q1:=Q7 Z.u26 Zx λ_ _ _ _ _ _ _ hr=>(Qd (Qu 3 Zx.nd (Qg (Qb 0) (Qb 1)))
 (Qd (Qu 4 Zx.nd (Qag (ZD (Qb 2)) (QQ (Qb 1) Qe) (Qbb (Qb 1) (Zs Z.z_len (Qg (Qb 3) Qe)))))
 (Qd (Qu 5 Zx.nd (QQ (Qb 4) (Zs Z.z_len (Qg (Qb 3) Qe))))
 (Qd (r_if (r_w (YQ (QdV (Qb 4) Qe) (Z7 (Jv hr (QI (Qb 0) (QV (Qb 4)) (QV (Qb 5))) (Qs (QdL Z) hr.m (Qc (Qg (Qb 3) Qe) Qf)))))) (Qh (Zl Z.e_NoMove hr.hd (Qc Qn Qf))) Qp)
 (Qh (Qv (QQ (QQ (QI (Qb 0) QD (QV (Qnb rfl Z.z_min (Qb 4) (Qb 1)))) (Qq (Qc (Qs (Qc5 Z) hr.m (Qc (Qb 3) Qf)) Qf))) (QI (Qb 0) (QV (Qnc rfl Z.z_max (Qb 5) (QQ (Qb 1) Qe))) QD))))))))
theorem JN(Z:Zk K mg ca):FnH P w K mg base ca "with_one_brought_over" 3 3 QE:=Q7 Z.u27 QJ λ_ _ _ _ _ _ _ hr=>(Qd (Qu 3 QJ.nd (Qg (Qb 0) (Qb 1)))
 (Qd (Qu 4 QJ.nd (Qg (Qb 3) Qe))
 (Qd (Qu 5 QJ.nd (Qag (ZD (Qb 2)) (Qg (Qb 4) (Ju Qe)) (Qg (Qb 4) Qe)))
 (Qd (Qu 6 QJ.nd (Qag (ZD (Qb 2)) (Qbb (Qb 1) Qe) (QQ (Qb 1) Qe)))
 (Qd (r_if (r_w (YQ (YM (ZD (Qs (Jd Z) hr.m (Qc (Qb 6) (Qc (Zs Z.z_len (Qb 0)) Qf))))) (Z7 (Jv hr (Qg (Qb 0) (Qb 6)) (Qq (Qc (Q2 Z.g_ONE) (Qc (Qb 5) Qf))))))) (Qh (Zl Z.e_NoMove hr.hd (Qc Qn Qf))) Qp)
 (Qd (r_if (ZD (Qb 2)) (Qd (Qu 7 QJ.nd (Qq (Qc (Q2 Z.g_MANY) (Qc (QQ (Qq (Qc (Qb 5) Qf)) (QI (Qb 4) QD (QV (Ju Qe)))) (Qc (Qg (Qb 3) Qe) Qf)))))
 (Qh (Qv (QQ (QQ (QI (Qb 0) QD (QV (Qb 6))) (Qq (Qc (Qb 7) (Qc (Qg (Qb 0) (Qb 6)) Qf)))) (QI (Qb 0) (QV (QQ (Qb 1) Qe)) QD))))) Qp)
 (Qd (Qu 7 QJ.nd (Qq (Qc (Q2 Z.g_MANY) (Qc (QQ (QI (Qb 4) (QV Qe) QD) (Qq (Qc (Qb 5) Qf))) (Qc (Qg (Qb 3) Qe) Qf)))))
 (Qh (Qv (QQ (QQ (QI (Qb 0) QD (QV (Qb 1))) (Qq (Qc (Qg (Qb 0) (Qb 6)) (Qc (Qb 7) Qf)))) (QI (Qb 0) (QV (QQ (Qb 6) Qe)) QD)))))))))))
theorem Qf7(Z:Zk K mg ca):FnH P w K mg base ca "with_end" 1 3 ZN:=Q7 Z.u28 QcY λ_ _ _ _ _ _ _ hr=>(Qd (Qu 3 QcY.nd (Qq (Qc (Qq (Qc (Q2 Z.g_ONE) (Qc (Qio Z.g_BLANK) Qf))) Qf)))
 (Qd (r_if (QY hr (Qb 1) Qn) (Qh (Qv (Qag (QY hr (Qb 2) (Q2 Z.g_LEFT)) (QQ (Qb 3) (Qb 0)) (QQ (Qb 0) (Qb 3))))) Qp)
 (Qd (r_if (Jv hr (Qb 1) Qn) (Qh (Zl Z.e_NoMove hr.hd (Qc Qn Qf))) Qp)
 (Qd (r_if (Jv hr (Qag (QY hr (Qb 2) (Q2 Z.g_LEFT)) (QI (Qb 0) QD (QV Qe)) (QI (Qb 0) (QV (Ju Qe)) QD)) (Qb 3)) (Qh (Zl Z.e_NoMove hr.hd (Qc Qn Qf))) Qp)
 (Qh (Qv (Qag (QY hr (Qb 2) (Q2 Z.g_LEFT)) (QI (Qb 0) (QV Qe) QD) (QI (Qb 0) QD (QV (Ju Qe))))))))))
theorem Qfl(Z:Zk K mg ca):FnH P w K mg base ca "with_many" 4 4 Zb:=Q7 Z.u29 Qb8 λ_ _ _ _ _ _ _ hr=>(Qd (Qu 4 Qb8.nd (Qs (Qcg Z) hr.m (Qc (Qb 0) (Qc (Qb 2) (Qc (Qb 3) Qf)))))
 (Qd (r_if (Qlq (Qb 1) (Qq (Qc Qn (Qc Qn Qf)))) (Qh (Qv (Qs (QaI Z) hr.m (Qc (Qb 0) (Qc (Qb 4) (Qc (r_eq hr (r_eq hr (Qb 1) Qn) (r_eq hr (Qb 2) (Q2 Z.g_LEFT))) Qf)))))) Qp)
 (Qd (r_if (Qlq (Qb 1) (Qq (Qc Qn (Qc Qn Qf)))) (Qh (Qv (Qs (JN Z) hr.m (Qc (Qb 0) (Qc (Qb 4) (Qc (r_eq hr (r_eq hr (Qb 1) Qn) (r_eq hr (Qb 2) (Q2 Z.g_LEFT))) Qf)))))) Qp)
 (Qh (Zl Z.e_NoMove hr.hd (Qc Qn Qf))))))
theorem QaJ(Z:Zk K mg ca):FnH P w K mg base ca "after_put_together" 5 2 Qk:=Q7 Z.u30 Q8 λ_ _ _ _ _ _ _ hr=>(Qd (r_if (r_w (YQ (YM (ZD (Yt .tuple Z.z_isinstance Z.z_tuple Jh (Qb 1)))) (YQ (Qd2 (Zs Z.z_len (Qb 1)) (Qq (Qc Qe (Qc Qe Qf)))) (Z7 (Qd2 (Qg (Qb 1) Qe) (Qq (Qc (Q2 Z.g_LEFT) (Qc (Q2 Z.g_RIGHT) Qf)))))))) (Qh (Zl Z.e_NoMove hr.hd (Qc Qn Qf))) Qp)
 (Qd (Qu 2 Q8.nd (Qg (Qb 1) Qe))
 (Qd (Qu 3 Q8.nd (Qag (QY hr (Qb 2) (Q2 Z.g_LEFT)) (Qg (Qb 0) Qe) (Qg (Qb 0) Qe)))
 (Qd (r_if (QY hr (Zs Z.z_len (Qb 1)) Qe) (Qh (Qu 4 Q8.nd (Qs (Qf7 Z) hr.m (Qc (Qb 3) (Qc (Qg (Qb 1) Qe) (Qc (Qb 2) Qf)))))) (Qh (Qu 4 Q8.nd (Qs (Qfl Z) hr.m (Qc (Qb 3) (Qc (Qg (Qb 1) Qe) (Qc (Qb 2) (Qc (Qg (Qb 1) Qe) Qf))))))))
 (Qd (r_if (QY hr (Qb 2) (Q2 Z.g_LEFT)) (Qh (Qv (Qq (Qc (Qg (Qb 0) Qe) (Qc (Qg (Qb 0) Qe) (Qc (Qb 4) (Qc (Qg (Qb 0) Qe) Qf))))))) Qp)
 (Qh (Qv (Qq (Qc (Qg (Qb 0) Qe) (Qc (Qg (Qb 0) Qe) (Qc (Qg (Qb 0) Qe) (Qc (Qb 4) Qf))))))))))))
theorem QeB(Z:Zk K mg ca):FnH P w K mg base ca "after_move" 6 3 Qt:=Q7 Z.u31 Qeo λ_ _ _ _ _ _ _ hr=>(Qd (r_if (QY hr (Qb 2) (QfC Z.g_STEP)) (Qh (Qv (Qs (Qey Z) hr.m (Qc (Qb 0) (Qc (Qb 1) Qf))))) Qp)
 (Qd (r_if (QY hr (Qb 2) (QfC Z.g_OVER)) (Qh (Qv (Qs (Qez Z) hr.m (Qc (Qb 0) (Qc (Qb 1) Qf))))) Qp)
 (Qd (r_if (QY hr (Qb 2) (QfC Z.g_OPEN)) (Qh (Qv (Qs (QeA Z) hr.m (Qc (Qb 1) Qf)))) Qp)
 (Qh (Qv (Qs (QaJ Z) hr.m (Qc (Qb 1) (Qc (Qb 2) Qf))))))))
theorem Qki(Z:Zk K mg ca):FnH P w K mg base ca "moved" 8 3 JT:=Q7 Z.u32 Qkc λ_ _ _ _ _ _ _ hr=>(Qd (Qai (Qs (Qb3 Z) hr.m (Qc (Qb 0) (Qc (Qb 1) Qf))))
 (Qh (Qv (Qs (QeB Z) hr.m (Qc (Qb 0) (Qc (Qs (Qdl Z) hr.m (Qc (Qb 1) Qf)) (Qc (Qb 2) Qf)))))))
theorem Je(Z:Zk K mg ca):FnH P w K mg base ca "_law_next" 1 2 Yu:=Q7 Z.u33 QbJ λ_ _ _ _ _ _ _ hr=>(Qd (QdU (Qb 1) Qe (QQ (Qg (Qb 1) Qe) Qe))
 (Qd (Qu 2 QbJ.nd Qe)
 (Qd (r_if (Qlh (Zs Z.z_len (Qb 0)) Qe) (Qh (Qu 2 QbJ.nd (Qg (Qb 0) (Zj (Qg (Qb 1) Qe) (Zs Z.z_len (Qb 0)))))) Qp)
 (Qd (Qu 3 QbJ.nd (Zj (Qfy (QQ (QQ (Zj (Qb 2) Qe) (Qfy (Qfy (Qg (Qb 1) Qe) (Qg (Qb 1) Qe)) Qe)) Qe) Qe) Qe))
 (Qh (Qv (Zj (Qfy (Qb 3) (Qb 3)) Qe)))))))
theorem Qc6(Z:Zk K mg ca):∀n:Nat,FnH P w K mg base ca "_law_same" (1+n) 2 (Yb n)
 |0=>by
  obtain⟨f,fd,F,hm⟩:=Z.u34
  exact⟨⟨f,fd,["_law_found", "_law_due_here"],Qlx rfl,hm,F.kp,F.binds (ps:=["_law_found", "_law_due_here"]) (λ_ _ _ _ _ _ us hl=>by obtain⟨_,_,rfl⟩:=L3.len2 hl;rfl)⟩,λ_ _ _=>rfl⟩
 |n+1=>by
  have ih:=Qc6 Z n
  obtain⟨f,fd,F,hm⟩:=Z.u34
  exact⟨⟨f,fd,["_law_found", "_law_due_here"],Qjx F Qi9 rfl rfl (λcdv A outer s H E hr=>(Qd (r_if (ZD (Yt .dict Z.z_isinstance Z.z_dict Qiq (Qb 1))) (Qd (r_if (r_w (YQ (YM (ZD (Yt .dict Z.z_isinstance Z.z_dict Qiq (Qb 0)))) (Z7 (Jv hr (Zs Z.z_len (Qb 0)) (Zs Z.z_len (Qb 1)))))) (Qh (Qv r_bl)) Qp)
 (Qh (Qv (Qih rfl Z.z_all (Qam (ZM (Nb:=["_law_name", "_law_found", "_law_due_here"]) (no:=1) (cap:=[0,1]) (N:=Qeq) (sc:=Qi QbK) rfl rfl (by decide +kernel)) rfl (Yd (Qb 1)) (λcl C s3 H3 ex=>⟨(QG 0 (show List.Nodup (["_law_name", "_law_found", "_law_due_here"]:List Str) by decide +kernel)),QcD,(Qaf (r_in (Qb 0) (Qb 1)) (Qcc (Qs ih hr (Qc (Qg (Qb 1) (Qb 0)) (Qc (Qg (Qb 2) (Qb 0)) Qf)))))⟩)))))) Qp)
 (Qd (r_if (r_w (YQ (ZD (Yt .list Z.z_isinstance Z.z_list QfA (Qb 1))) (Z7 (ZD (Yt .tuple Z.z_isinstance Z.z_tuple Jh (Qb 1)))))) (Qd (r_if (r_w (YQ (Jv hr (Yt .list Z.z_isinstance Z.z_list QfA (Qb 0)) (Yt .list Z.z_isinstance Z.z_list QfA (Qb 1))) (Z7 (Jv hr (Yt .tuple Z.z_isinstance Z.z_tuple Jh (Qb 0)) (Yt .tuple Z.z_isinstance Z.z_tuple Jh (Qb 1)))))) (Qh (Qv r_bl)) Qp)
 (Qh (Qv (Qaf (r_eq hr (Zs Z.z_len (Qb 0)) (Zs Z.z_len (Qb 1))) (Qcc (Qih rfl Z.z_all (Qam (ZM (Nb:=["_law_one", "_law_other"]) (no:=2) (cap:=[]) (N:=Qeq) (sc:=Qi QbK) rfl rfl (by decide +kernel)) rfl (Qn2 Z.z_zip (Qb 0) (Qb 1)) (λcl C s3 H3 ex=>⟨(Qak rfl (QL (QG 0 (show List.Nodup (["_law_one", "_law_other"]:List Str) by decide +kernel)) (QL (QG 1 (show List.Nodup (["_law_one", "_law_other"]:List Str) by decide +kernel)) Qaj))),QcD,(Qs ih hr (Qc (Qb 0) (Qc (Qb 1) Qf)))⟩)))))))) Qp)
 (Qd (r_if (ZD (Yt .str Z.z_isinstance Z.z_str Qkz (Qb 1))) (Qh (Qv (Qaf (Yt .str Z.z_isinstance Z.z_str Qkz (Qb 0)) (Qcc (r_eq hr (Qb 0) (Qb 1)))))) Qp)
 (Qh (Qv (Qaf (Yt .int Z.z_isinstance Z.z_int Qky (Qb 0)) (Qaf (QmP (Yt .bool Z.z_isinstance Z.z_bool Qip (Qb 0))) (Qcc (r_eq hr (Qb 0) (Qb 1))))))))))),hm,F.kp,F.binds (ps:=["_law_found", "_law_due_here"]) (λ_ _ _ _ _ _ us hl=>by obtain⟨_,_,rfl⟩:=L3.len2 hl;rfl)⟩,Qfw _ _ _⟩
theorem Qjh(Z:Zk K mg ca):FnH P w K mg base ca "_law_word" 2 3 Qd7:=Q7 Z.u35 QaF λ_ _ _ _ _ _ _ hr=>(Qd (Qu 3 QaF.nd (Qs (Je Z) hr.m (Qc (Qb 0) (Qc (Qb 1) Qf))))
 (Qd (Qu 4 QaF.nd (Qg (ZL (Qc Qe (Qc Qe (Qc Qe (Qc Qe (Qc Qe (Qc Qe (Qc (QQ Qe (Zj (Zp (Qb 3) Qe) Qe)) (Qc Qe Qf))))))))) (Zj (Qb 3) Qe)))
 (Qd (r_if (r_w (Qgj (QY hr (Qb 4) Qe) (QdT (Qlh (Zj (Zp (Qb 3) Qe) Qe) Qe)))) (Qh (Qu 4 QaF.nd Qe)) Qp)
 (Qd (Qu 5 QaF.nd (Qs (Je Z) hr.m (Qc (Qb 0) (Qc (Qb 1) Qf))))
 (Qh (Qv (Ye Z.z_tuple (Qam (ZM (Nb:=["_law_k", "_law_signs", "_law_turn", "_law_m"]) (no:=1) (cap:=[2,5,3]) (N:=QgM) (sc:=Qi Qcu) rfl rfl (by decide +kernel)) rfl (QaN Z.z_range (Qb 4)) (λcl C s3 H3 ex=>⟨(QG 0 (show List.Nodup (["_law_k", "_law_signs", "_law_turn", "_law_m"]:List Str) by decide +kernel)),QcD,(Zj (QQ (Zp (Qb 2) (QQ (Qfy (Qfy (Qb 0) (Qb 0)) (Qb 0)) Qe)) (Qfy (Qb 0) (Zj (Zp (Qb 3) Qe) Qe))) (Qb 1))⟩)))))))))
theorem Qhs(Z:Zk K mg ca):FnH P w K mg base ca "_law_table" 2 4 QcI:=Q7 Z.u36 Yr λ_ _ _ _ _ _ _ hr=>(Qd (Qu 4 Yr.nd (ZL Qf))
 (Qd (Qdc rfl (QaN Z.z_range (Qb 2)) (QG 5 Yr.nd) (Qd (Qu 6 Yr.nd (ZL Qf))
 (Qd (Qdc rfl (QaN Z.z_range (Qb 3)) (QG 7 Yr.nd) (Qd (Qu 8 Yr.nd (Qs (Je Z) hr.m (Qc (Qb 0) (Qc (Qb 1) Qf))))
 (Qd (Qu 9 Yr.nd (Qq (Qc (Zj (Zp (Qb 8) Qe) (Qb 3)) (Qc (Qg Qn (Zj (Zp (Qb 8) Qe) Qe)) (Qc (Zj (Zp (Qb 8) Qe) (Qb 2)) Qf)))))
 (Qd (r_if (QY hr (Zj (Qb 8) Qe) Qe) (Qh (Qu 9 Yr.nd Zr)) Qp)
 (Qh (Qai (Qcn (Qb 6) (Qb 9))))))))
 (Qh (Qai (Qcn (Qb 4) (Qb 6)))))))
 (Qh (Qv (Qb 4)))))
theorem Qc7(Z:Zk K mg ca):FnH P w K mg base ca "_law_tokens" 3 4 QaP:=Q7 Z.u37 Jb λ_ _ _ _ _ _ _ hr=>(Qd (Qu 4 Jb.nd (ZL Qf))
 (Qd (Qh1 (QdV (Zs Z.z_len (Qb 4)) (Qb 3)) (Qd (Qu 5 Jb.nd (Qs (Je Z) hr.m (Qc (Qb 0) (Qc (Qb 1) Qf))))
 (Qd (r_if (QY hr (Zj (Qb 5) Qe) Qe) (Qh (Qv (Qb 4))) Qp)
 (Qh (r_if (QdV (Zj (Qb 5) Qe) Qe) (Qh (Qai (Qcn (Qb 4) (Qq (Qc Qn (Qc (Zj (Zp (Qb 5) Qe) (Qb 2)) Qf)))))) (Qd (Qu 6 Jb.nd (Qs (Qjh Z) hr.m (Qc (Qb 0) (Qc (Qb 1) (Qc (Qb 2) Qf)))))
 (Qd (Qh5 7 Jb.nd (ZM (Nb:=["_law_sign", "_law_word_here"]) (no:=1) (cap:=[6]) (N:=QdJ) (sc:=Qi QaU) rfl rfl (by decide +kernel)) rfl (Yd (QI (Qb 6) QD (QV Qe))) (λcl C s3 H3 ex=>⟨(QG 0 (show List.Nodup (["_law_sign", "_law_word_here"]:List Str) by decide +kernel)),(QnZ (QdV (Zs Z.z_len (Qb 1)) Qe)),(Qq (Qc Qn (Qc (Qb 0) Qf)))⟩))
 (Qd (Qai (Qgw (Qb 4) (Qg (ZL (Qc (ZL Qf) (Qc (Qb 7) (Qc (QI (Qb 7) (QV (Ju Qe)) QD) (Qc (QI (Qb 7) QD (QV Qe)) (Qc (Qb 7) (Qc (ZL Qf) Qf))))))) (Zj (Zp (Qb 5) Qe) Qe))))
 (Qd (Qai (Qcn (Qb 4) (Qq (Qc Qn (Qc (Qb 6) (Qc (Zj (Zp (Qb 5) Qe) Qe) Qf))))))
 (Qh (Qai (Qgw (Qb 4) (Qg (ZL (Qc (ZL Qf) (Qc (Qb 7) (Qc (QI (Qb 7) QD (QV Qe)) (Qc (QI (Qb 7) (QV (Ju Qe)) QD) (Qc (ZL Qf) (Qc (Qb 7) Qf))))))) (Zj (Zp (Qb 5) Qe) Qe))))))))))))))
 (Qh (Qv (Qb 4)))))
theorem Qht(Z:Zk K mg ca):FnH P w K mg base ca "_law_shape" 4 4 QcK:=Q7 Z.u38 QaV λ_ _ _ _ _ _ _ hr=>(Qd (Qu 4 QaV.nd (Qs (Je Z) hr.m (Qc (Qb 0) (Qc (Qb 1) Qf))))
 (Qd (Qu 5 QaV.nd (Qs (Qc7 Z) hr.m (Qc (Qb 0) (Qc (Qb 1) (Qc (Qb 3) (Qc (Zj (Zp (Qb 4) Qe) Qe) Qf))))))
 (Qd (Qu 6 QaV.nd (Qs (Qc7 Z) hr.m (Qc (Qb 0) (Qc (Qb 1) (Qc (Qb 3) (Qc (Zj (Zp (Qb 4) Qe) Qe) Qf))))))
 (Qh (Qv (Qq (Qc (Zj (Zp (Qb 4) Qe) (Qb 2)) (Qc (Qg Qn (Zj (Qb 4) Qe)) (Qc (Qb 5) (Qc (Qb 6) Qf))))))))))
theorem Qfm(Z:Zk K mg ca):FnH P w K mg base ca "_law_kept" 1 1 QaQ:=Q7 Z.u39 QaG λ_ _ _ _ _ _ _ hr=>(Qd (Qdb (Qb 0) (Qak rfl (QL (QG 1 QaG.nd) (QL (QG 2 QaG.nd) (QL (QG 3 QaG.nd) (QL (QG 4 QaG.nd) Qaj))))))
 (Qh (Qv (Qq (Qc (Qb 1) (Qc (Qb 2) (Qc (Ye Z.z_tuple (Qb 3)) (Qc (Ye Z.z_tuple (Qb 4)) Qf))))))))
theorem Qji(Z:Zk K mg ca):FnH P w K mg base ca "_law_is" 1 2 Qgy:=Q7 Z.u40 Qes λ_ _ _ _ _ _ _ hr=>(Qd (Qu 2 Qes.nd (ZL (Qc (Jx Z.z_isinstance Z.x_NoMachine (Qb 0)) (Qc (Jx Z.z_isinstance Z.x_NoNames (Qb 0)) (Qc (Jx Z.z_isinstance Z.x_NoNumber (Qb 0)) Qf)))))
 (Qd (Qu 2 Qes.nd (QQ (Qb 2) (ZL (Qc (Jx Z.z_isinstance Z.x_NoShot (Qb 0)) (Qc (Jx Z.z_isinstance Z.x_NoStretches (Qb 0)) (Qc (Jx Z.z_isinstance Z.x_TooLong (Qb 0)) Qf))))))
 (Qd (Qu 2 Qes.nd (QQ (Qb 2) (ZL (Qc (Jx Z.z_isinstance Z.x_NoWidth (Qb 0)) (Qc (Jx Z.z_isinstance Z.x_NoText (Qb 0)) Qf)))))
 (Qd (r_if (r_w (YQ (Qlq r_bl (Qb 2)) (Z7 (YM (ZD (Qlt Z.z_isinstance Z.z_ValueError Z.x_ValueError (Qb 0))))))) (Qh (Qv r_bl)) Qp)
 (Qh (Qv (Qaf (r_eq hr (Jx Z.z_isinstance Z.x_NoShape (Qb 0)) (r_eq hr (Qb 1) Qn)) (Qcc (r_eq hr (Jx Z.z_isinstance Z.x_NoMove (Qb 0)) (r_eq hr (Qb 1) Qn))))))))))
theorem Qdn(Z:Zk K mg ca):FnH P w K mg base ca "_law_bad_shape" 1 2 Yw:=Q7 Z.u41 Q6 λ_ _ _ _ _ _ _ hr=>(Qd (Qdb (Qb 1) (Qak rfl (QL (QG 2 Q6.nd) (QL (QG 3 Q6.nd) (QL (QG 4 Q6.nd) (QL (QG 5 Q6.nd) Qaj))))))
 (Qd (Qu 6 Q6.nd (ZL (Qc (Qq (Qc Qn Qf)) (Qc (Qq (Qc Qn (Qc (Ju Qe) Qf))) (Qc (Qq (Qc Qn (Qc (Qq Qf) (Qc Qe Qf)))) (Qc (Qq (Qc Qn (Qc (Qq (Qc Qe Qf)) (Qc (Ju Qe) Qf)))) (Qc (Qq (Qc Qn (Qc (ZL (Qc Qe Qf)) (Qc Qe Qf)))) (Qc (Qq (Qc Qn (Qc Qe Qf))) (Qc Zr Qf)))))))))
 (Qd (Qu 6 Q6.nd (QQ (Qb 6) (ZL (Qc (Qq (Qc Qn (Qc (Qq (Qc Qe Qf)) Qf))) (Qc (Qq (Qc Qn (Qc Qn Qf))) (Qc (Qq (Qc Qn (Qc (Qq (Qc Qe (Qc (Ju Qe) Qf))) (Qc Qe Qf)))) (Qc (ZL (Qc Qn (Qc Qe Qf))) (Qc (Qq Qf) (Qc Qn (Qc (Qq (Qc Qn (Qc Qe (Qc Qe Qf)))) (Qc Qe Qf)))))))))))
 (Qd (Qu 7 Q6.nd (Qg (Qb 6) (Zj (Zp (Qb 0) Qe) Qe)))
 (Qd (Qu 8 Q6.nd (Zj (Zp (Qb 0) Qe) (QQ (Zs Z.z_len (Qb 4)) Qe)))
 (Qd (r_if (QY hr (Zj (Qb 0) Qe) Qe) (Qh (Qv (Qq (Qc (Ju Qe) (Qc (Qb 3) (Qc (Qb 4) (Qc (Qb 5) Qf))))))) Qp)
 (Qd (r_if (QY hr (Zj (Qb 0) Qe) Qe) (Qh (Qv (Qq (Qc (Qb 2) (Qc (Qg (ZL (Qc Qn (Qc Qn (Qc Qn (Qc Zr Qf))))) (Zj (Zp (Qb 0) Qe) Qe)) (Qc (Qb 4) (Qc (Qb 5) Qf))))))) Qp)
 (Qd (r_if (QY hr (Zj (Qb 0) Qe) Qe) (Qh (Qv (Qq (Qc (Qb 2) (Qc (Qb 3) (Qc Zr (Qc (Qb 5) Qf))))))) Qp)
 (Qd (r_if (QY hr (Zj (Qb 0) Qe) Qe) (Qh (Qv (Qg (ZL (Qc (Qq (Qc (Qb 2) (Qc (Qb 3) (Qc (Qb 4) Qf)))) (Qc (ZL (Qc (Qb 2) (Qc (Qb 3) (Qc (Qb 4) (Qc (Qb 5) Qf))))) (Qc Zr (Qc (Qq (Qc (Qb 2) (Qc (Qb 3) (Qc (Qb 4) (Qc (Qb 5) (Qc Qe Qf)))))) Qf))))) (Zj (Zp (Qb 0) Qe) Qe)))) Qp)
 (Qd (r_if (QY hr (Zj (Qb 0) Qe) Qe) (Qh (Qv (Qq (Qc (Qb 2) (Qc (Qb 3) (Qc (Qb 4) (Qc Qn Qf))))))) Qp)
 (Qd (r_if (QY hr (Zj (Qb 0) Qe) Qe) (Qh (Qv (Qq (Qc Zr (Qc (Qb 3) (Qc (Qb 4) (Qc (Qb 5) Qf))))))) Qp)
 (Qd (r_if (QY hr (Zj (Qb 0) Qe) Qe) (Qh (Qv (Qq (Qc (Qb 2) (Qc (Qb 3) (Qc (Qb 4) (Qc (QQ (Qdw Z.z_list (Qb 5)) (ZL (Qc (Qb 7) Qf))) Qf))))))) Qp)
 (Qh (Qv (Qq (Qc (Qb 2) (Qc (Qb 3) (Qc (QQ (QQ (Qdw Z.z_list (QI (Qb 4) QD (QV (Qb 8)))) (ZL (Qc (Qb 7) Qf))) (Qdw Z.z_list (QI (Qb 4) (QV (Qb 8)) QD))) (Qc (Qb 5) Qf)))))))))))))))))))
theorem Qb4(Z:Zk K mg ca):FnH P w K mg base ca "_law_taken" 1 1 Ya:=Q7 Z.u42 JL λ_ _ _ _ _ _ _ hr=>(Qd (Qdb (Qb 0) (Qak rfl (QL (QG 1 JL.nd) (QL (QG 2 JL.nd) (QL (QG 3 JL.nd) (QL (QG 4 JL.nd) Qaj))))))
 (Qd (r_if (QY hr (Qb 2) Qn) (Qd (r_if (QY hr (Zs Z.z_len (Qb 4)) Qe) (Qh (Qv (Qq (Qc Zr (Qc (Qb 3) (Qc (Qb 4) Qf)))))) Qp)
 (Qh (Qv (Qq (Qc (Qg (Qb 4) Qe) (Qc (Qb 3) (Qc (QI (Qb 4) (QV Qe) QD) Qf))))))) Qp)
 (Qd (r_if (QY hr (Zs Z.z_len (Qb 3)) Qe) (Qh (Qv (Qq (Qc Zr (Qc (Qb 3) (Qc (Qb 4) Qf)))))) Qp)
 (Qh (Qv (Qq (Qc (Qg (Qb 3) (Ju Qe)) (Qc (QI (Qb 3) QD (QV (Ju Qe))) (Qc (Qb 4) Qf)))))))))
theorem Qfn(Z:Zk K mg ca):FnH P w K mg base ca "_law_stepped" 2 2 Yg:=Q7 Z.u43 ZV λ_ _ _ _ _ _ _ hr=>(Qd (Qdb (Qs (Qb4 Z) hr.m (Qc (Qb 1) Qf)) (Qak rfl (QL (QG 2 ZV.nd) (QL (QG 3 ZV.nd) (QL (QG 4 ZV.nd) Qaj)))))
 (Qd (Qu 5 ZV.nd Qe)
 (Qd (r_if (Qgr (Qb 2) Zr) (Qd (r_if (QY hr (Qg (Qb 2) Qe) Qn) (Qh (Qv Zr)) Qp)
 (Qh (Qu 5 ZV.nd (Qg (Qb 2) Qe)))) Qp)
 (Qd (Qu 6 ZV.nd (Qg (Qg (Qb 0) (Qg (Qb 1) Qe)) (Qb 5)))
 (Qd (r_if (Qbt (Qb 6) Zr) (Qh (Qv Zr)) Qp)
 (Qd (r_if (QY hr (Qg (Qb 6) Qe) Qn) (Qh (Qv (Qq (Qc (Qg (Qb 6) Qe) (Qc Qn (Qc (QQ (Qb 3) (Qq (Qc (Qq (Qc Qn (Qc (Qg (Qb 6) Qe) Qf))) Qf))) (Qc (Qb 4) Qf))))))) Qp)
 (Qh (Qv (Qq (Qc (Qg (Qb 6) Qe) (Qc Qn (Qc (Qb 3) (Qc (QQ (Qq (Qc (Qq (Qc Qn (Qc (Qg (Qb 6) Qe) Qf))) Qf)) (Qb 4)) Qf)))))))))))))
theorem Qjj(Z:Zk K mg ca):FnH P w K mg base ca "_law_over" 2 2 Qbz:=Q7 Z.u44 Q9 λ_ _ _ _ _ _ _ hr=>(Qd (Qdb (Qb 1) (Qak rfl (QL (QG 2 Q9.nd) (QL (QG 3 Q9.nd) (QL (QG 4 Q9.nd) (QL (QG 5 Q9.nd) Qaj))))))
 (Qd (Qdb (Qs (Qb4 Z) hr.m (Qc (Qb 1) Qf)) (Qak rfl (QL (QG 6 Q9.nd) (QL (QG 4 Q9.nd) (QL (QG 5 Q9.nd) Qaj)))))
 (Qd (r_if (r_w (YQ (Qbt (Qb 6) Zr) (Z7 (QY hr (Qg (Qb 6) Qe) Qn)))) (Qh (Qv Zr)) Qp)
 (Qd (Qu 7 Q9.nd (Qdw Z.z_list (Qg (Qb 6) Qe)))
 (Qd (Qu 8 Q9.nd (Qg (ZL (Qc Qe (Qc (Qbb (Zs Z.z_len (Qb 7)) Qe) Qf))) (Qbc Z.z_int (r_eq hr (Qb 3) Qn))))
 (Qd (Qu 9 Q9.nd (Qb 2))
 (Qd (Qu 10 Q9.nd Qe)
 (Qd (Qh1 (r_w (Qgj (Qn0 Qe (Qb 8)) (QdT (QdV (Qb 8) (Zs Z.z_len (Qb 7)))))) (Qd (Qu 11 Q9.nd (Qg (Qg (Qb 0) (Qb 9)) (Qg (Qb 7) (Qb 8))))
 (Qd (r_if (r_w (YQ (Qbt (Qb 11) Zr) (Z7 (QY hr (Qb 10) Qe)))) (Qh (Qv Zr)) Qp)
 (Qd (QdU (Qb 7) (Qb 8) (Qg (Qb 11) Qe))
 (Qd (Qu 9 Q9.nd (Qg (Qb 11) Qe))
 (Qd (Qu 8 Q9.nd (QQ (Qb 8) (Qg (ZL (Qc (Ju Qe) (Qc Qe Qf))) (Qbc Z.z_int (r_eq hr (Qg (Qb 11) Qe) Qn)))))
 (Qh (Qu 10 Q9.nd (QQ (Qb 10) Qe)))))))))
 (Qd (r_if (r_w (YQ (Jv hr (Qb 9) (Qb 2)) (Z7 (Jv hr (r_lt (Qb 8) Qe) (r_eq hr (Qb 3) Qn))))) (Qh (Qv Zr)) Qp)
 (Qd (Qu 12 Q9.nd (Qq (Qc Qn (Qc (Ye Z.z_tuple (Qb 7)) (Qc (Qg (Qb 6) Qe) Qf)))))
 (Qd (r_if (QY hr (Qb 3) Qn) (Qh (Qv (Qq (Qc (Qb 2) (Qc (Qb 3) (Qc (QQ (Qb 4) (Qq (Qc (Qb 12) Qf))) (Qc (Qb 5) Qf))))))) Qp)
 (Qh (Qv (Qq (Qc (Qb 2) (Qc (Qb 3) (Qc (Qb 4) (Qc (QQ (Qq (Qc (Qb 12) Qf)) (Qb 5)) Qf))))))))))))))))))
theorem Qf8(Z:Zk K mg ca):FnH P w K mg base ca "_law_opened" 2 1 YB:=Q7 Z.u45 ZB λ_ _ _ _ _ _ _ hr=>(Qd (Qdb (Qb 0) (Qak rfl (QL (QG 1 ZB.nd) (QL (QG 2 ZB.nd) (QL (QG 3 ZB.nd) (QL (QG 4 ZB.nd) Qaj))))))
 (Qd (Qdb (Qs (Qb4 Z) hr.m (Qc (Qb 0) Qf)) (Qak rfl (QL (QG 5 ZB.nd) (QL (QG 3 ZB.nd) (QL (QG 4 ZB.nd) Qaj)))))
 (Qd (r_if (r_w (YQ (Qbt (Qb 5) Zr) (YQ (QY hr (Qg (Qb 5) Qe) Qn) (Z7 (QdV (Qg (Qb 5) Qe) Qe))))) (Qh (Qv Zr)) Qp)
 (Qd (Qu 6 ZB.nd (Ye Z.z_tuple (Qam (ZM (Nb:=["_law_sign"]) (no:=1) (cap:=[]) (N:=QdK) (sc:=Qi QaW) rfl rfl (by decide +kernel)) rfl (Yd (Qg (Qb 5) Qe)) (λcl C s3 H3 ex=>⟨(QG 0 (show List.Nodup (["_law_sign"]:List Str) by decide +kernel)),QcD,(Qq (Qc Qn (Qc (Qb 0) Qf)))⟩))))
 (Qd (Qu 7 ZB.nd (Qq (Qc (Qq (Qc Qn (Qc (Qg (Qb 5) Qe) (Qc (Qbb (Qg (Qb 5) Qe) Qe) Qf)))) Qf)))
 (Qd (r_if (QY hr (Qb 2) Qn) (Qh (Qv (Qq (Qc (Qb 1) (Qc (Qb 2) (Qc (Qb 3) (Qc (QQ (QQ (Qb 6) (Qb 7)) (Qb 4)) Qf))))))) Qp)
 (Qh (Qv (Qq (Qc (Qb 1) (Qc (Qb 2) (Qc (QQ (QQ (Qb 3) (Qb 7)) (Qb 6)) (Qc (Qb 4) Qf)))))))))))))
theorem Ql3(Z:Zk K mg ca):FnH P w K mg base ca "_law_at" 1 3 QbA:=Q7 Z.u46 Qf0 λ_ _ _ _ _ _ _ hr=>(Qd (Qu 3 Qf0.nd (Qb 2))
 (Qd (r_if (QY hr (Qb 0) Qn) (Qh (Qu 3 Qf0.nd (Qbb (Qbb (Zs Z.z_len (Qb 1)) Qe) (Qb 2)))) Qp)
 (Qd (r_if (r_w (YQ (QdV (Qb 2) Qe) (YQ (Qli (Qb 2) (Zs Z.z_len (Qb 1))) (Z7 (Jv hr (Qg (Qg (Qb 1) (Qb 3)) Qe) Qn))))) (Qh (Qv Zr)) Qp)
 (Qh (Qv (Qb 3))))))
theorem QeC(Z:Zk K mg ca):FnH P w K mg base ca "_law_gathered" 1 3 YF:=Q7 Z.u47 YW λ_ _ _ _ _ _ _ hr=>(Qd (Qu 3 YW.nd (Qg (Qg (Qb 0) (Qb 1)) Qe))
 (Qd (Qu 4 YW.nd (QQ (Qb 2) (Zs Z.z_len (Qb 3))))
 (Qd (r_if (r_w (YQ (QdV (Qb 2) Qe) (Z7 (Jv hr (QI (Qb 0) (QV (Qb 2)) (QV (Qb 4))) (Ye Z.z_tuple (Qam (ZM (Nb:=["_law_sign"]) (no:=1) (cap:=[]) (N:=Qb9) (sc:=Qi Jo) rfl rfl (by decide +kernel)) rfl (Yd (Qb 3)) (λcl C s3 H3 ex=>⟨(QG 0 (show List.Nodup (["_law_sign"]:List Str) by decide +kernel)),QcD,(Qq (Qc Qn (Qc (Qb 0) Qf)))⟩))))))) (Qh (Qv Zr)) Qp)
 (Qd (Qu 5 YW.nd (Qdw Z.z_list (Qb 0)))
 (Qd (QdU (Qb 5) (Qb 1) (Qq (Qc Qn (Qc (Qb 3) (Qc (QQ (Qg (Qg (Qb 0) (Qb 1)) Qe) Qe) Qf)))))
 (Qh (Qv (Ye Z.z_tuple (QQ (QI (Qb 5) QD (QV (Qb 2))) (QI (Qb 5) (QV (Qb 4)) QD))))))))))
theorem Qf9(Z:Zk K mg ca):FnH P w K mg base ca "_law_passed" 1 3 Z0:=Q7 Z.u48 Jc λ_ _ _ _ _ _ _ hr=>(Qd (Qu 3 Jc.nd (Qg (Qg (Qb 0) (Qb 1)) Qe))
 (Qd (Qu 4 Jc.nd (Qg (Qg (Qb 0) (Qb 1)) Qe))
 (Qd (r_if (ZD (Qb 2)) (Qd (r_if (r_w (YQ (QY hr (Qb 1) Qe) (Z7 (Jv hr (Qg (Qb 0) (Qbb (Qb 1) Qe)) (Qq (Qc Qn (Qc (Qg (Qb 3) (Ju Qe)) Qf))))))) (Qh (Qv Zr)) Qp)
 (Qd (Qu 5 Jc.nd (Qq (Qc Qn (Qc (QQ (QI (Qb 3) (QV (Ju Qe)) QD) (QI (Qb 3) QD (QV (Ju Qe)))) (Qc (Qb 4) Qf)))))
 (Qh (Qv (QQ (QQ (QI (Qb 0) QD (QV (Qbb (Qb 1) Qe))) (Qq (Qc (Qb 5) (Qc (Qg (Qb 0) (Qbb (Qb 1) Qe)) Qf)))) (QI (Qb 0) (QV (QQ (Qb 1) Qe)) QD)))))) Qp)
 (Qd (r_if (r_w (YQ (QY hr (QQ (Qb 1) Qe) (Zs Z.z_len (Qb 0))) (Z7 (Jv hr (Qg (Qb 0) (QQ (Qb 1) Qe)) (Qq (Qc Qn (Qc (Qg (Qb 3) Qe) Qf))))))) (Qh (Qv Zr)) Qp)
 (Qd (Qu 5 Jc.nd (Qq (Qc Qn (Qc (QQ (QI (Qb 3) (QV Qe) QD) (QI (Qb 3) QD (QV Qe))) (Qc (Qb 4) Qf)))))
 (Qh (Qv (QQ (QQ (QI (Qb 0) QD (QV (Qb 1))) (Qq (Qc (Qg (Qb 0) (QQ (Qb 1) Qe)) (Qc (Qb 5) Qf)))) (QI (Qb 0) (QV (QQ (Qb 1) Qe)) QD)))))))))
theorem Qc8(Z:Zk K mg ca):FnH P w K mg base ca "_law_many_moved" 2 4 Ze:=Q7 Z.u49 ZW λ_ _ _ _ _ _ _ hr=>(Qd (Qu 4 ZW.nd (Qs (Ql3 Z) hr.m (Qc (Qb 1) (Qc (Qb 2) (Qc (Qb 3) Qf)))))
 (Qd (r_if (Qbt (Qb 4) Zr) (Qh (Qv Zr)) Qp)
 (Qd (Qu 5 ZW.nd (r_eq hr (Qb 1) Qn))
 (Qd (r_if (r_w (YQ (QY hr (Qb 0) Qn) (Z7 (QY hr (Qb 0) Qn)))) (Qd (Qu 6 ZW.nd (QQ (Qb 4) Qe))
 (Qd (r_if (QY hr (r_eq hr (Qb 0) Qn) (Qb 5)) (Qh (Qu 6 ZW.nd (Qbb (Qb 4) (Zs Z.z_len (Qg (Qg (Qb 2) (Qb 4)) Qe))))) Qp)
 (Qh (Qv (Qs (QeC Z) hr.m (Qc (Qb 2) (Qc (Qb 4) (Qc (Qb 6) Qf)))))))) Qp)
 (Qh (Qv (Qs (Qf9 Z) hr.m (Qc (Qb 2) (Qc (Qb 4) (Qc (r_eq hr (r_eq hr (Qb 0) Qn) (Qb 5)) Qf))))))))))
theorem Qdo(Z:Zk K mg ca):FnH P w K mg base ca "_law_end_moved" 1 3 Zd:=Q7 Z.u50 Qdj λ_ _ _ _ _ _ _ hr=>(Qd (r_if (QY hr (Qb 0) Qn) (Qh (Qv (Qg (ZL (Qc (QQ (Qb 2) (Qq (Qc (Qq (Qc Qn (Qc Qe Qf))) Qf))) (Qc (QQ (Qq (Qc (Qq (Qc Qn (Qc Qe Qf))) Qf)) (Qb 2)) Qf))) (Qbc Z.z_int (r_eq hr (Qb 1) Qn))))) Qp)
 (Qd (r_if (r_w (YQ (QY hr (Zs Z.z_len (Qb 2)) Qe) (Z7 (Jv hr (Qg (Qb 2) (Qg (ZL (Qc (Ju Qe) (Qc Qe Qf))) (Qbc Z.z_int (r_eq hr (Qb 1) Qn)))) (Qq (Qc Qn (Qc Qe Qf))))))) (Qh (Qv Zr)) Qp)
 (Qh (Qv (Qg (ZL (Qc (QI (Qb 2) QD (QV (Ju Qe))) (Qc (QI (Qb 2) (QV Qe) QD) Qf))) (Qbc Z.z_int (r_eq hr (Qb 1) Qn)))))))
theorem Qkj(Z:Zk K mg ca):FnH P w K mg base ca "_law_due" 3 3 Y4:=Q7 Z.u51 Jp λ_ _ _ _ _ _ _ hr=>(Qd (Qdb (Qb 1) (Qak rfl (QL (QG 3 Jp.nd) (QL (QG 4 Jp.nd) (QL (QG 5 Jp.nd) (QL (QG 6 Jp.nd) Qaj))))))
 (Qd (r_if (QY hr (Qg (Qb 2) Qe) Qn) (Qh (Qv (Qs (Qfn Z) hr.m (Qc (Qb 0) (Qc (Qb 1) Qf))))) Qp)
 (Qd (r_if (QY hr (Qg (Qb 2) Qe) Qn) (Qh (Qv (Qs (Qjj Z) hr.m (Qc (Qb 0) (Qc (Qb 1) Qf))))) Qp)
 (Qd (r_if (QY hr (Qg (Qb 2) Qe) Qn) (Qh (Qv (Qs (Qf8 Z) hr.m (Qc (Qb 1) Qf)))) Qp)
 (Qd (Qu 7 Jp.nd (Qg (ZL (Qc (Qb 6) (Qc (Qb 5) Qf))) (Qbc Z.z_int (r_eq hr (Qg (Qb 2) Qe) Qn))))
 (Qd (r_if (QY hr (Zs Z.z_len (Qb 2)) Qe) (Qh (Qu 8 Jp.nd (Qs (Qc8 Z) hr.m (Qc (Qg (Qb 2) Qe) (Qc (Qg (Qb 2) Qe) (Qc (Qb 7) (Qc (Qg (Qb 2) Qe) Qf))))))) (Qh (Qu 8 Jp.nd (Qs (Qdo Z) hr.m (Qc (Qg (Qb 2) Qe) (Qc (Qg (Qb 2) Qe) (Qc (Qb 7) Qf)))))))
 (Qd (r_if (Qbt (Qb 8) Zr) (Qh (Qv Zr)) Qp)
 (Qd (r_if (QY hr (Qg (Qb 2) Qe) Qn) (Qh (Qv (Qq (Qc (Qb 3) (Qc (Qb 4) (Qc (Qb 8) (Qc (Qb 6) Qf))))))) Qp)
 (Qh (Qv (Qq (Qc (Qb 3) (Qc (Qb 4) (Qc (Qb 5) (Qc (Qb 8) Qf)))))))))))))))
theorem QdN(Z:Zk K mg ca):FnH P w K mg base ca "_law_moves" 1 1 Qau:=Q7 Z.u52 Y0 λ_ _ _ _ _ _ _ hr=>(Qd (Qu 1 Y0.nd (ZL (Qc (Qq (Qc Qn Qf)) (Qc (Qq (Qc Qn Qf)) (Qc (Qq (Qc Qn Qf)) (Qc (Qq (Qc Qn (Qc Qn Qf))) (Qc (Qq (Qc Qn (Qc Qn Qf))) (Qc (Qq (Qc Qn (Qc Qn Qf))) (Qc (Qq (Qc Qn (Qc Qn Qf))) Qf)))))))))
 (Qd (Qdc rfl (Yd (ZL (Qc Qn (Qc Qn Qf)))) (QG 2 Y0.nd) (Qd (Qu 3 Y0.nd (Qg (ZL (Qc (Qg (Qb 0) Qe) (Qc (Qg (Qb 0) Qe) Qf))) (Qbc Z.z_int (r_eq hr (Qb 2) Qn))))
 (Qh (Qdc rfl (QaN Z.z_range (QQ (Zs Z.z_len (Qb 3)) Qe)) (QG 4 Y0.nd) (Qh (Qu 1 Y0.nd (QQ (Qb 1) (Qam (ZM (Nb:=["_law_word_here", "_law_side", "_law_number"]) (no:=1) (cap:=[2,4]) (N:=Qfj) (sc:=Qi QbL) rfl rfl (by decide +kernel)) rfl (Yd (ZL (Qc Qn (Qc Qn (Qc Qn (Qc Qn Qf)))))) (λcl C s3 H3 ex=>⟨(QG 0 (show List.Nodup (["_law_word_here", "_law_side", "_law_number"]:List Str) by decide +kernel)),QcD,(Qq (Qc (Qb 0) (Qc (Qb 1) (Qc (Qb 2) Qf))))⟩)))))))))
 (Qh (Qv (Qb 1)))))
theorem QaK(Z:Zk K mg ca):FnH P w K mg base ca "_law_told" 9 3 ZQ:=Q7 Z.u53 JM λ_ _ _ _ _ _ _ hr=>(Qd (Qu 3 JM.nd Zr)
 (Qd (Qu 4 JM.nd Zr)
 (Qd (Qlw 5 JM.nd Z.t_TapeError (Qh (Qu 4 JM.nd (Qs (Qki Z) hr.m (Qc (Qb 0) (Qc (Qb 1) (Qc (Qb 2) Qf)))))) (λa=>(Qh (Qu 3 JM.nd (Qb 5)))))
 (Qd (r_if (Qbt (Qb 3) Zr) (Qh (Qv (Qq (Qc Qn (Qc (Qb 4) Qf))))) Qp)
 (Qd (r_if (ZD (Qs (Qji Z) hr.m (Qc (Qb 3) (Qc Qn Qf)))) (Qh (Qv (Qq (Qc Qn (Qc Qe Qf))))) Qp)
 (Qd (r_if (ZD (Qs (Qji Z) hr.m (Qc (Qb 3) (Qc Qn Qf)))) (Qh (Qv (Qq (Qc Qn (Qc Qe Qf))))) Qp)
 (Qh (Qv (Qq (Qc Qn (Qc Qe Qf)))))))))))
theorem Qfo(Z:Zk K mg ca):FnH P w K mg base ca "_law_strange" 10 4 Qbd:=Q7 Z.u54 QU λ_ _ _ _ _ _ _ hr=>(Qd (Qu 4 QU.nd (Qs (Je Z) hr.m (Qc (Qb 0) (Qc (Qb 1) Qf))))
 (Qd (Qu 5 QU.nd (ZL (Qc (Qq (Qc Qn (Qc Qe Qf))) (Qc (Qq (Qc Qn Qf)) (Qc (Qq Qf) (Qc Zr (Qc Qn (Qc (ZL (Qc Qn Qf)) (Qc (Qq (Qc Qn (Qc Qn Qf))) (Qc (Qq (Qc Qn (Qc Qn (Qc Qe Qf)))) (Qc (Qq (Qc Qn (Qc Qn (Qc (Ju Qe) Qf)))) Qf)))))))))))
 (Qd (Qu 5 QU.nd (QQ (Qb 5) (ZL (Qc (Qq (Qc Qn (Qc Qn (Qc Zr Qf)))) (Qc (Qq (Qc Qn Qf)) (Qc (Qq (Qc Qn (Qc Qn (Qc Qe Qf)))) (Qc (Qq (Qc Qn (Qc Qe Qf))) (Qc (Qq (Qc Qe Qf)) (Qc (Qq (Qc Qn (Qc Qn Qf))) (Qc (Qq (Qc Qn (Qc Qn (Qc Qe Qf)))) Qf))))))))))
 (Qd (r_if (Jv hr (Qs (QaK Z) hr.m (Qc (Qb 2) (Qc (Qb 3) (Qc (Qg (Qb 5) (Zj (Qb 4) Qe)) Qf)))) (Qq (Qc Qn (Qc Qe Qf)))) (Qh (Qv r_bl)) Qp)
 (Qd (Qdb (Qb 3) (Qak rfl (QL (QG 6 QU.nd) (QL (QG 7 QU.nd) (QL (QG 8 QU.nd) (QL (QG 9 QU.nd) Qaj))))))
 (Qd (Qu 10 QU.nd (Zs Z.z_len (Qg (Qdv (Qb 2) Z.a_table) Qe)))
 (Qd (Qu 11 QU.nd (Qg (ZL (Qc (Qq (Qc Qn (Qc (QQ (Qb 10) (Zj (Zp (Qb 4) Qe) Qe)) Qf))) (Qc (Qq (Qc Qn (Qc (Qq (Qc Qe (Qc (Qb 10) Qf))) (Qc (Zj (Zp (Qb 4) Qe) Qe) Qf)))) Qf))) (Zj (Zp (Qb 4) Qe) Qe)))
 (Qd (r_if (QY hr (Zj (Zp (Qb 4) Qe) Qe) Qe) (Qh (Qu 3 QU.nd (Qq (Qc (QQ (Zs Z.z_len (Qdv (Qb 2) Z.a_table)) (Zj (Zp (Qb 4) Qe) Qe)) (Qc (Qb 7) (Qc (Qb 8) (Qc (Qb 9) Qf))))))) (Qh (r_if (QY hr (Zj (Zp (Qb 4) Qe) Qe) Qe) (Qh (Qu 3 QU.nd (Qq (Qc (Qb 6) (Qc (Qb 7) (Qc (QQ (Ye Z.z_tuple (Qb 8)) (Qq (Qc (Qb 11) Qf))) (Qc (Qb 9) Qf))))))) (Qh (r_if (QY hr (Zj (Zp (Qb 4) Qe) Qe) Qe) (Qh (Qu 3 QU.nd (Qq (Qc (Qb 6) (Qc (Qb 7) (Qc (Qb 8) (Qc (QQ (Qq (Qc (Qb 11) Qf)) (Ye Z.z_tuple (Qb 9))) Qf))))))) (Qh (Qu 3 QU.nd (Qs (Qdn Z) hr.m (Qc (Zp (Qb 4) Qe) (Qc (Qb 3) Qf))))))))))
 (Qh (Qv (r_eq hr (Qs (QaK Z) hr.m (Qc (Qb 2) (Qc (Qb 3) (Qc (Qg (ZL (Qc (Qq (Qc Qn Qf)) (Qc (Qg (Qb 5) (Zj (Qb 4) Qe)) (Qc (Qq (Qc Qn (Qc Qn Qf))) Qf)))) (Zj (Zp (Qb 4) Qe) Qe)) Qf)))) (Qq (Qc Qn (Qc Qe Qf))))))))))))))
theorem Qhu(Z:Zk K mg ca):FnH P w K mg base ca "_law_round" 11 2 QcM:=Q7 Z.u55 Zh λ_ _ _ _ _ _ _ hr=>(Qd (Qu 2 Zh.nd (Qs (Je Z) hr.m (Qc (Qb 0) (Qc (Qb 1) Qf))))
 (Qd (Qu 3 Zh.nd (QQ Qe (Zj (Qb 2) Qe)))
 (Qd (Qu 4 Zh.nd (QQ Qe (Zj (Zp (Qb 2) Qe) Qe)))
 (Qd (Qu 5 Zh.nd (Qs (Qhs Z) hr.m (Qc (Qb 0) (Qc (Qb 1) (Qc (Qb 3) (Qc (Qb 4) Qf))))))
 (Qd (Qu 6 Zh.nd (QmT (Qc4 Z) hr.m (Qc (Qb 5) Qf)))
 (Qd (Qu 7 Zh.nd (Qs (Qht Z) hr.m (Qc (Qb 0) (Qc (Qb 1) (Qc (Qb 3) (Qc (Qb 4) Qf))))))
 (Qd (Qu 8 Zh.nd (Qs (Qfm Z) hr.m (Qc (Qb 7) Qf)))
 (Qd (Qdc rfl (Yd (Qs (QdN Z) hr.m (Qc (Qb 8) Qf))) (QG 9 Zh.nd) (Qd (Qu 10 Zh.nd (Qs (Qkj Z) hr.m (Qc (Qb 5) (Qc (Qb 8) (Qc (Qb 9) Qf)))))
 (Qd (Qu 11 Zh.nd (Qq (Qc Qn (Qc (Qb 10) Qf))))
 (Qd (r_if (Qbt (Qb 10) Zr) (Qh (Qu 11 Zh.nd (Qq (Qc Qn (Qc Qe Qf))))) Qp)
 (Qh (r_if (YM (ZD (Qs (Qc6 Z 6) hr.m (Qc (Qs (QaK Z) hr.m (Qc (Qb 6) (Qc (Qb 7) (Qc (Qb 9) Qf)))) (Qc (Qb 11) Qf))))) (Qh (Qv r_bl)) Qp))))))
 (Qd (Qu 12 Zh.nd (Qg (Qs (QdN Z) hr.m (Qc (Qb 8) Qf)) (Zj (Zp (Qb 2) Qe) Qe)))
 (Qd (r_if (Jv hr (Qs (QaK Z) hr.m (Qc (Qb 6) (Qc (Qb 8) (Qc (Qb 12) Qf)))) (Qs (QaK Z) hr.m (Qc (Qb 6) (Qc (Qb 7) (Qc (Qb 12) Qf))))) (Qh (Qv r_bl)) Qp)
 (Qd (r_if (YM (ZD (Qs (Qfo Z) hr.m (Qc (Qb 0) (Qc (Qb 1) (Qc (Qb 6) (Qc (Qb 7) Qf))))))) (Qh (Qv r_bl)) Qp)
 (Qh (Qv (Qs (Qc6 Z 6) hr.m (Qc (Qs (Qfm Z) hr.m (Qc (Qb 7) Qf)) (Qc (Qb 8) Qf))))))))))))))))
theorem Qnz(Z:Zk K mg ca){f:Addr}{fd:FuncData}(F:Fun K "law" "law" Qkh f fd):FnOk P w K mg base (CXW P w ca) 12 f fd ["_law_script"] (spM K ca 1 QjP) :=
 Qjx F Qjg rfl rfl (λcdv A outer s H E hr=>(Qd (Qu 1 Qjg.nd (ZL (Qc Qe Qf)))
 (Qd (Qdc rfl (QaN Z.z_range (QQ Qe (Zp (Zs Z.z_len (QI (Qb 0) QD (QV Qe))) Qe))) (QG 2 Qjg.nd) (Qh (r_if (YM (ZD (Qs (Qhu Z) hr.m (Qc (Qb 0) (Qc (Qb 1) Qf))))) (Qh (Qv r_bl)) Qp)))
 (Qh (Qv r_bl)))))
end
noncomputable def caOf(l:List Nat)(n:Nat):Addr:=l.getD n 0
def FA(K:Frag)(x:Str)(st:Stmt):Prop:=∃(f:Addr)(oc kV dc pm cd ct:Value)(od an:Option Addr)(sl:Array (Option Value)),nsIn K mainGlobals x=some (some (.ref f))/\K.lookup f=some ⟨oc,od,.func (fnOf x x (Qae st) (Y3 st) (Qi st) .none kV dc pm an cd ct),sl⟩/\codeIn K cd x=true/\keepIn K (.ref f)=true
theorem fa_mk{K:Frag}{x:Str}{st:Stmt}{f:Addr}{oc kV dc pm cd ct:Value}{od an:Option Addr}{sl:Array (Option Value)}(a:nsIn K mainGlobals x=some (some (.ref f)))(l:K.lookup f=some ⟨oc,od,.func (fnOf x x (Qae st) (Y3 st) (Qi st) .none kV dc pm an cd ct),sl⟩)(d:codeIn K cd x=true)(k:keepIn K (.ref f)=true):FA K x st:=⟨f,oc,kV,dc,pm,cd,ct,od,an,sl,a,l,d,k⟩
theorem FA.u{K:Frag}{h:Heap}{mg:Str->Option Value}{x:Str}{st:Stmt}(a:FA K x st)(X:K.In h)(G:h.Ns mainGlobals mg):UF K mg x st:=by
 obtain⟨f,oc,kV,dc,pm,cd,ct,od,an,sl,a,l,d,k⟩:=a
 exact⟨f,_,Qkp l d k,UA X G a⟩
theorem z_mk{K:Frag}{h:Heap}{mg:Str->Option Value}(X:K.In h)(G:h.Ns mainGlobals mg){C0 C1 C2 C3 C4 C5 C6 C7 C8 C9 C10 C11:Addr}{oc57 kV57 dc57 pm57 cd57 ct57:Value}{od57 an57:Option Addr}{sl57:Array (Option Value)}{f57:Addr}{og_BLANK:_}{og_LEFT:_}{og_MANY:_}{og_MOST_STEPS_OVER:_}{og_ONE:_}{og_OPEN:Addr}{og_OVER:Addr}{og_RIGHT:_}{og_STEP:Addr}(c0:nsIn K mainGlobals "TapeError" = some (some (.ref C0)))(c1:nsIn K mainGlobals "NoMachine" = some (some (.ref C1)))(c2:nsIn K mainGlobals "NoNames" = some (some (.ref C2)))(c3:nsIn K mainGlobals "NoNumber" = some (some (.ref C3)))(c4:nsIn K mainGlobals "NoShot" = some (some (.ref C4)))(c5:nsIn K mainGlobals "NoStretches" = some (some (.ref C5)))(c6:nsIn K mainGlobals "TooLong" = some (some (.ref C6)))(c7:nsIn K mainGlobals "NoShape" = some (some (.ref C7)))(c8:nsIn K mainGlobals "NoMove" = some (some (.ref C8)))(c9:nsIn K mainGlobals "NoWidth" = some (some (.ref C9)))(c10:nsIn K mainGlobals "NoText" = some (some (.ref C10)))(c11:nsIn K mainGlobals "Machine" = some (some (.ref C11)))(a1:FA K "is_whole" QbU)(a2:FA K "is_below" QbV)(a3:FA K "is_from_nought" YK)(a4:FA K "is_entry" QbX)(a5:FA K "check_rows" Jn)(a6:FA K "states_of" Qbi)(a7:FA K "signs_of" QbY)(a8:FA K "is_word" QbG)(a9:FA K "is_token" QbZ)(a10:FA K "check_tokens" YE)(a11:FA K "check_shape" JX)(a12:FA K "raised_token" Jy)(a13:FA K "signs_in" Qb0)(a14:FA K "check_shape_of" YL)(a15:FA K "with_tuples" JY)(a16:FA K "ones_of" QbH)(a17:FA K "token_ahead" JZ)(a18:FA K "many_ahead" QaA)(a19:FA K "in_place_of_ahead" Yi)(a20:FA K "gone_on" QcW)(a21:FA K "after_step" QaB)(a22:FA K "word_behind" J4)(a23:FA K "after_over" QaC)(a24:FA K "after_open" QaD)(a25:FA K "place_of_many" Ja)(a26:FA K "with_ones_taken_in" Z5)(a27:FA K "with_one_brought_over" ZK)(a28:FA K "with_end" Qb1)(a29:FA K "with_many" Qbk)(a30:FA K "after_put_together" Z6)(a31:FA K "after_move" QaE)(a32:FA K "moved" QfY)(a33:FA K "_law_next" Qep)(a34:FA K "_law_same" QbK)(a35:FA K "_law_word" Qcu)(a36:FA K "_law_table" QcZ)(a37:FA K "_law_tokens" QaU)(a38:FA K "_law_shape" Qc0)(a39:FA K "_law_kept" Qer)(a40:FA K "_law_is" Qjc)(a41:FA K "_law_bad_shape" J8)(a42:FA K "_law_taken" Qc1)(a43:FA K "_law_stepped" Qbl)(a44:FA K "_law_over" Qeu)(a45:FA K "_law_opened" QaW)(a46:FA K "_law_at" Qje)(a47:FA K "_law_gathered" Jo)(a48:FA K "_law_passed" Qb2)(a49:FA K "_law_many_moved" Jz)(a50:FA K "_law_end_moved" J9)(a51:FA K "_law_due" Qf1)(a52:FA K "_law_moves" QbL)(a53:FA K "_law_told" Qew)(a54:FA K "_law_strange" Qbm)(a55:FA K "_law_round" Qc2)(a56:FA K "law" Qkh)(a57:findIn K (.ref C11) "__init__" = some (some (.ref f57)))(l57:K.lookup f57=some ⟨oc57,od57,.func (fnOf "__init__" "Machine.__init__" (Qae ZA) (Y3 ZA) (Qi ZA) .none kV57 dc57 pm57 an57 cd57 ct57),sl57⟩)(d57:codeIn K cd57 "Machine.__init__" = true)(k57:keepIn K (.ref f57)=true)(i57:isFn K (.ref f57)=true)(m57:makesIn K C11=true)(q57:keepIn K (.ref C11)=true)(nz_ValueError:nsIn K mainGlobals "ValueError" = some none)(nz_all:nsIn K mainGlobals "all" = some none)(nz_bool:nsIn K mainGlobals "bool" = some none)(nz_dict:nsIn K mainGlobals "dict" = some none)(nz_int:nsIn K mainGlobals "int" = some none)(nz_isinstance:nsIn K mainGlobals "isinstance" = some none)(nz_len:nsIn K mainGlobals "len" = some none)(nz_list:nsIn K mainGlobals "list" = some none)(nz_max:nsIn K mainGlobals "max" = some none)(nz_min:nsIn K mainGlobals "min" = some none)(nz_range:nsIn K mainGlobals "range" = some none)(nz_str:nsIn K mainGlobals "str" = some none)(nz_tuple:nsIn K mainGlobals "tuple" = some none)(nz_zip:nsIn K mainGlobals "zip" = some none)(ng_BLANK:nsIn K mainGlobals "BLANK" = some (some (.int 0 og_BLANK)))(ng_LEFT:nsIn K mainGlobals "LEFT" = some (some (.str "l" og_LEFT)))(ng_MANY:nsIn K mainGlobals "MANY" = some (some (.str "many" og_MANY)))(ng_MOST_STEPS_OVER:nsIn K mainGlobals "MOST_STEPS_OVER" = some (some (.int 1000 og_MOST_STEPS_OVER)))(ng_ONE:nsIn K mainGlobals "ONE" = some (some (.str "one" og_ONE)))(ng_OPEN:nsIn K mainGlobals "OPEN" = some (some (.ref og_OPEN)))(mg_OPEN:datB K 9 (.ref og_OPEN) (.tup [(.str "open")])=true)(ng_OVER:nsIn K mainGlobals "OVER" = some (some (.ref og_OVER)))(mg_OVER:datB K 9 (.ref og_OVER) (.tup [(.str "over")])=true)(ng_RIGHT:nsIn K mainGlobals "RIGHT" = some (some (.str "r" og_RIGHT)))(ng_STEP:nsIn K mainGlobals "STEP" = some (some (.ref og_STEP)))(mg_STEP:datB K 9 (.ref og_STEP) (.tup [(.str "step")])=true)(nt_TapeError:catB K (caOf [C0,C1,C2,C3,C4,C5,C6,C7,C8,C9,C10,C11]) C0 [0,1,2,3,4,5,6,7,8,9,10] []=true)(nx_NoMachine:isxB K (caOf [C0,C1,C2,C3,C4,C5,C6,C7,C8,C9,C10,C11]) (.ref C1) [0,1,2,3,4,5,6,7,8,9,10] [1]=true)(nx_NoMove:isxB K (caOf [C0,C1,C2,C3,C4,C5,C6,C7,C8,C9,C10,C11]) (.ref C8) [0,1,2,3,4,5,6,7,8,9,10] [8]=true)(nx_NoNames:isxB K (caOf [C0,C1,C2,C3,C4,C5,C6,C7,C8,C9,C10,C11]) (.ref C2) [0,1,2,3,4,5,6,7,8,9,10] [2]=true)(nx_NoNumber:isxB K (caOf [C0,C1,C2,C3,C4,C5,C6,C7,C8,C9,C10,C11]) (.ref C3) [0,1,2,3,4,5,6,7,8,9,10] [3]=true)(nx_NoShape:isxB K (caOf [C0,C1,C2,C3,C4,C5,C6,C7,C8,C9,C10,C11]) (.ref C7) [0,1,2,3,4,5,6,7,8,9,10] [7]=true)(nx_NoShot:isxB K (caOf [C0,C1,C2,C3,C4,C5,C6,C7,C8,C9,C10,C11]) (.ref C4) [0,1,2,3,4,5,6,7,8,9,10] [4]=true)(nx_NoStretches:isxB K (caOf [C0,C1,C2,C3,C4,C5,C6,C7,C8,C9,C10,C11]) (.ref C5) [0,1,2,3,4,5,6,7,8,9,10] [5]=true)(nx_NoText:isxB K (caOf [C0,C1,C2,C3,C4,C5,C6,C7,C8,C9,C10,C11]) (.ref C10) [0,1,2,3,4,5,6,7,8,9,10] [10]=true)(nx_NoWidth:isxB K (caOf [C0,C1,C2,C3,C4,C5,C6,C7,C8,C9,C10,C11]) (.ref C9) [0,1,2,3,4,5,6,7,8,9,10] [9]=true)(nx_TooLong:isxB K (caOf [C0,C1,C2,C3,C4,C5,C6,C7,C8,C9,C10,C11]) (.ref C6) [0,1,2,3,4,5,6,7,8,9,10] [6]=true)(nx_ValueError:isxB K (caOf [C0,C1,C2,C3,C4,C5,C6,C7,C8,C9,C10,C11]) (.type "ValueError") [0,1,2,3,4,5,6,7,8,9,10] [0,1,2,3,4,5,6,7,8,9,10]=true)(ne_NoMachine:excIn K C1 bmV "ValueError.__new__" = true)(ne_NoMove:excIn K C8 bmV "ValueError.__new__" = true)(ne_NoShape:excIn K C7 bmV "ValueError.__new__" = true)(na_table:fldB K (caOf [C0,C1,C2,C3,C4,C5,C6,C7,C8,C9,C10,C11]) [11] "table" = true):Zk K mg (caOf [C0,C1,C2,C3,C4,C5,C6,C7,C8,C9,C10,C11]) :=
  ⟨UE X G nz_ValueError,
   UE X G nz_all,
   UE X G nz_bool,
   UE X G nz_dict,
   UE X G nz_int,
   UE X G nz_isinstance,
   UE X G nz_len,
   UE X G nz_list,
   UE X G nz_max,
   UE X G nz_min,
   UE X G nz_range,
   UE X G nz_str,
   UE X G nz_tuple,
   UE X G nz_zip,
   ⟨_,UA X G ng_BLANK⟩,
   ⟨_,UA X G ng_LEFT⟩,
   ⟨_,UA X G ng_MANY⟩,
   ⟨_,UA X G ng_MOST_STEPS_OVER⟩,
   ⟨_,UA X G ng_ONE⟩,
   (Qgx 9 _ _ mg_OPEN).elim λv h=>⟨_,v,UA X G ng_OPEN,h.1,h.2⟩,
   (Qgx 9 _ _ mg_OVER).elim λv h=>⟨_,v,UA X G ng_OVER,h.1,h.2⟩,
   ⟨_,UA X G ng_RIGHT⟩,
   (Qgx 9 _ _ mg_STEP).elim λv h=>⟨_,v,UA X G ng_STEP,h.1,h.2⟩,
   ⟨UA X G c0,Qm5 nt_TapeError⟩,
   ⟨UA X G c1,Qan nx_NoMachine⟩,
   ⟨UA X G c8,Qan nx_NoMove⟩,
   ⟨UA X G c2,Qan nx_NoNames⟩,
   ⟨UA X G c3,Qan nx_NoNumber⟩,
   ⟨UA X G c7,Qan nx_NoShape⟩,
   ⟨UA X G c4,Qan nx_NoShot⟩,
   ⟨UA X G c5,Qan nx_NoStretches⟩,
   ⟨UA X G c10,Qan nx_NoText⟩,
   ⟨UA X G c9,Qan nx_NoWidth⟩,
   ⟨UA X G c6,Qan nx_TooLong⟩,
   ⟨Qd3,Qan nx_ValueError⟩,
   ⟨UA X G c1,ne_NoMachine⟩,
   ⟨UA X G c8,ne_NoMove⟩,
   ⟨UA X G c7,ne_NoShape⟩,
   Qm7 na_table,
   a1.u X G,
   a2.u X G,
   a3.u X G,
   a4.u X G,
   a5.u X G,
   ⟨f57,_,Qkp (st:=ZA) l57 d57 k57,⟨m57,a57,i57,q57⟩,UA X G c11⟩,
   a6.u X G,
   a7.u X G,
   a8.u X G,
   a9.u X G,
   a10.u X G,
   a11.u X G,
   a12.u X G,
   a13.u X G,
   a14.u X G,
   a15.u X G,
   a16.u X G,
   a17.u X G,
   a18.u X G,
   a19.u X G,
   a20.u X G,
   a21.u X G,
   a22.u X G,
   a23.u X G,
   a24.u X G,
   a25.u X G,
   a26.u X G,
   a27.u X G,
   a28.u X G,
   a29.u X G,
   a30.u X G,
   a31.u X G,
   a32.u X G,
   a33.u X G,
   a34.u X G,
   a35.u X G,
   a36.u X G,
   a37.u X G,
   a38.u X G,
   a39.u X G,
   a40.u X G,
   a41.u X G,
   a42.u X G,
   a43.u X G,
   a44.u X G,
   a45.u X G,
   a46.u X G,
   a47.u X G,
   a48.u X G,
   a49.u X G,
   a50.u X G,
   a51.u X G,
   a52.u X G,
   a53.u X G,
   a54.u X G,
   a55.u X G,
   a56.u X G⟩
theorem walk{l:PySem.W.OpenLaw}{p:Program}{loose:List Str}{XP:(Str->Option Value)->Heap->Prop}{YP:World->Heap->Prop}{d:DefRec}{K:Params->Frag}(C:List Nat)(hn:l.most=some 63)(hdf:d.params.defaults=[])(hd:d.name = "law")(hY:∀(w:World) (h:Heap),YP w h->(K w.params).In h)(F:∀(w:World) (mg:Str->Option Value) (h:Heap),(K w.params).In h->h.Ns mainGlobals mg->Zk (K w.params) mg (caOf C))(M:∀ns:List Int,ns.length<=63->∃g',QjP [.fl (ns.map D.int)] []=.ok (.bl true) g'):PySem.W.WalkO p loose XP YP l.row.toRowW d [] (λf vs=>PySem.call f vs):=by
 refine L2.walk_of (n:=63) (k:=12) (x:="_law_script") (CX:=λw=>CXW l.prog w (caOf C)) (sp:=λw=>spM (K w.params) (caOf C) 1 QjP) hn (by decide) hdf ⟨rfl,by decide,by decide⟩ hY (λw mg fa h KX G hmg=>?_) (λw H a ns hl hO hS=>Qm8 hO hS (M ns hl)) (λw H s e s' z=>?_)
 ·have Z:=F w mg h KX G
  obtain⟨f,fd,Fu,hm⟩:=Z.u56
  rw[hd]at hmg
  have e:=hmg.symm.trans hm
  cases e
  refine⟨fd,λs u=>?_,λbase _ _=>Qnz Z Fu⟩
  obtain⟨oc,od,kV,doc,pm,an,cdv,ct,osl,rfl,lk,hcd⟩:=Fu.ex
  exact .of_eq rfl
 ·obtain⟨_,_,_,_,_,_,_,_,_,_,z⟩:=z
  exact z
end V
namespace V
open PySem PySem.W PySem.W.X PySem.Spec PyProof.Rows
theorem walkX_of{as:List Addr}{K:Params->Frag}{n t:Nat}{q:Program}{loose:List Str}{XP:(Str->Option Value)->Heap->Prop}{r:RowW}{d:DefRec}{kwd:List (Str×PySem.Expr)}{run:Value->List Value->Sem Value}(e:∀P,as=(K P).map (·.1))(h:WalkO q loose XP (InK K) r d kwd run):WalkX q loose XP (obsZ as) (valZ K n t) r d kwd run :=
 λw s₀ s₁ mg mb G y a o pm cd doc dV kV h1 h2 h3 h4 h5 h6 args vals as' L p1 p2 p3 p4 p5 =>
  h w s₀ s₁ mg mb G (InK.keeps w _ _ (z_facts e y).2.1 L.keeps) a o pm cd doc dV kV h1 h2 h3 h4 h5 h6 args vals as' p1 p2 p3 p4 p5
end V
noncomputable def PySem.W.Fast.tw15345639640641517898 : PySem.Program := PySem.Challenge.pw_tapeproof_k41_moves_told
theorem PySem.W.Fast.te15345639640641517898 : PySem.Challenge.pw_tapeproof_k41_moves_told = PySem.W.Fast.tw15345639640641517898 := rfl
def PySem.W.Fast.tw17743457216249820245 : Unit := ()
def PySem.W.Fast.tw13970917900390892543 : Unit := ()
def PySem.W.Fast.tw8049679996508441682 : Unit := ()
def PySem.W.Fast.tw835716255806427135 : Unit := ()
def PySem.W.Fast.tw17371275095957118631 : Unit := ()
def PySem.W.Fast.tw11881383154961569009 : Unit := ()
def PySem.W.Fast.tw13727753625548597365 : Unit := ()
def PySem.W.Fast.tw2976713736487162492 : Unit := ()
def PySem.W.Fast.tw2112663840215767190 : Unit := ()
def PySem.W.Fast.tw14682436582722555700 : Unit := ()
def PySem.W.Fast.tw5634147893358947579 : Unit := ()
def PySem.W.Fast.tw16024533406313331474 : Unit := ()
def PySem.W.Fast.tw6585264503349618202 : Unit := ()
def PySem.W.Fast.tw13462436749234191331 : Unit := ()
def PySem.W.Fast.tw11592909463363510988 : Unit := ()
def PySem.W.Fast.tw217766255393421740 : Unit := ()
def PySem.W.Fast.tw6267985425632886403 : Unit := ()
def PySem.W.Fast.tw11957930654689173391 : Unit := ()
def PySem.W.Fast.tw16788094575151550146 : Unit := ()
def PySem.W.Fast.tw9741542416677186832 : Unit := ()
def PySem.W.Fast.tw9506371624966938088 : Unit := ()
def PySem.W.Fast.tw1141895466743035833 : Unit := ()
def PySem.W.Fast.tw3201883337779696737 : Unit := ()
def PySem.W.Fast.tw18322951296427646359 : Unit := ()
def PySem.W.Fast.tw2893224054480088308 : Unit := ()
def PySem.W.Fast.tw7968219746621886521 : Unit := ()
def PySem.W.Fast.tw12843808085006874781 : Unit := ()
def PySem.W.Fast.tw7605290139666134517 : Unit := ()
def PySem.W.Fast.tw6211781746792029549 : Unit := ()
def PySem.W.Fast.tw10525856074161472890 : Unit := ()
def PySem.W.Fast.tw12001867537947150509 : Unit := ()
def PySem.W.Fast.tw150423606084759786 : Unit := ()
def PySem.W.Fast.tw11011213978381974111 : Unit := ()
def PySem.W.Fast.tw5427891230310730170 : Unit := ()
def PySem.W.Fast.tw12879253243733869705 : Unit := ()
def PySem.W.Fast.tw5638797303502279107 : Unit := ()
def PySem.W.Fast.tw15871047596582654739 : Unit := ()
def PySem.W.Fast.tw3378274501107411044 : Unit := ()
def PySem.W.Fast.tw1031998543925608990 : Unit := ()
def PySem.W.Fast.tw10220004175847082943 : Unit := ()
def PySem.W.Fast.tw9538842797124578426 : Unit := ()
def PySem.W.Fast.tw10017125412913312609 : Unit := ()
def PySem.W.Fast.tw17947393425308294329 : Unit := ()
def PySem.W.Fast.tw15782801165877746563 : Unit := ()
def PySem.W.Fast.tw723592421813710873 : Unit := ()
def PySem.W.Fast.tw11413615060493357519 : Unit := ()
def PySem.W.Fast.tw15841408689627163583 : Unit := ()
def PySem.W.Fast.tw2283589417530752892 : Unit := ()
def PySem.W.Fast.tw8602294729453546263 : Unit := ()
def PySem.W.Fast.tw11888688497640114710 : Unit := ()
def PySem.W.Fast.tw4114748202688579492 : Unit := ()
def PySem.W.Fast.tw114586332969819187 : Unit := ()
def PySem.W.Fast.tw11349508220920419288 : Unit := ()
def PySem.W.Fast.tw3106943164639396697 : Unit := ()
def PySem.W.Fast.tw17998088850511644204 : Unit := ()
def PySem.W.Fast.tw675266534146372183 : Unit := ()
def PySem.W.Fast.tw1111192318919892715 : Unit := ()
def PySem.W.Fast.tw3186178853832848287 : Unit := ()
def PySem.W.Fast.tw6066215936321113516 : Unit := ()
def PySem.W.Fast.tw17521205260216365998 : Unit := ()
def PySem.W.Fast.tw328735913669056535 : Unit := ()
def PySem.W.Fast.tw16643504664924271325 : Unit := ()
def PySem.W.Fast.tw4582660536968599846 : Unit := ()
def PySem.W.Fast.tw8632823575107176892 : Unit := ()
def PySem.W.Fast.tw3283712776824873039 : Unit := ()
def PySem.W.Fast.tw1606041747334470767 : Unit := ()
def PySem.W.Fast.tw10154660055774533369 : Unit := ()
def PySem.W.Fast.tw10712897676218000925 : Unit := ()
def PySem.W.Fast.tw3695977428391287442 : Unit := ()
def PySem.W.Fast.tw11646721184160511326 : Unit := ()
def PySem.W.Fast.tw17795802709957613736 : Unit := ()
def PySem.W.Fast.tw11520905661015498619 : Unit := ()
def PySem.W.Fast.tw4635057097217317841 : Unit := ()
def PySem.W.Fast.tw7721564419287313013 : Unit := ()
def PySem.W.Fast.tw1210402150791762193 : Unit := ()
def PySem.W.Fast.tw17662507004438565877 : Unit := ()
def PySem.W.Fast.tw6320887609005013763 : Unit := ()
def PySem.W.Fast.tw6456457266026311559 : Unit := ()
def PySem.W.Fast.tw12416753921078049350 : Unit := ()
def PySem.W.Fast.tw1375675143578350049 : Unit := ()
def PySem.W.Fast.tw7686770035123342209 : Unit := ()
def PySem.W.Fast.tw8983444210123582649 : Unit := ()
def PySem.W.Fast.tw15241129808882471543 : Unit := ()
def PySem.W.Fast.tw15972646144321646553 : Unit := ()
def PySem.W.Fast.tw2732210562172788628 : Unit := ()
def PySem.W.Fast.tw11954896484290953432 : Unit := ()
def PySem.W.Fast.tw147247231574901334 : Unit := ()
def PySem.W.Fast.tw11716998812847785710 : Unit := ()
def PySem.W.Fast.tw8637535093417938829 : Unit := ()
def PySem.W.Fast.tw388166421555520781 : Unit := ()
def PySem.W.Fast.tw9026173633843789666 : Unit := ()
def PySem.W.Fast.tw15756258141427191913 : Unit := ()
def PySem.W.Fast.tw15528762369686680900 : Unit := ()
def PySem.W.Fast.tw18271692700022616841 : Unit := ()
def PySem.W.Fast.tw898978164308451359 : Unit := ()
def PySem.W.Fast.tw5897879368773461231 : Unit := ()
def PySem.W.Fast.tw8445428722780506756 : Unit := ()
def PySem.W.Fast.tw9549390989290730905 : Unit := ()
def PySem.W.Fast.tw7583329115124222531 : Unit := ()
def PySem.W.Fast.tw3204435216161345977 : Unit := ()
def PySem.W.Fast.tw14032671162671108686 : Unit := ()
def PySem.W.Fast.tw3598588925562172932 : Unit := ()
def PySem.W.Fast.tw2837794278743907257 : Unit := ()
def PySem.W.Fast.tw18174407978342683165 : Unit := ()
def PySem.W.Fast.tw15906043438437390077 : Unit := ()
def PySem.W.Fast.tw17819876462647762469 : Unit := ()
def PySem.W.Fast.tw10907133587683245138 : Unit := ()
def PySem.W.Fast.tw633488935357550942 : Unit := ()
def PySem.W.Fast.tw7936610257447707961 : Unit := ()
def PySem.W.Fast.tw12881141522281091479 : Unit := ()
def PySem.W.Fast.tw18130667393534932084 : Unit := ()
def PySem.W.Fast.tw3185671562687023218 : Unit := ()
def PySem.W.Fast.tw10249758490780487135 : Unit := ()
def PySem.W.Fast.tw6471386319657904072 : Unit := ()
def PySem.W.Fast.tw6972309252433676547 : Unit := ()
def PySem.W.Fast.tw17425789012408810761 : Unit := ()
def PySem.W.Fast.tw7217204148438774672 : Unit := ()
def PySem.W.Fast.tw1891898326556148573 : Unit := ()
def PySem.W.Fast.tw8560785310871647746 : Unit := ()
def PySem.W.Fast.tw1187581033841824082 : Unit := ()
def PySem.W.Fast.tw17098932380804093388 : Unit := ()
def PySem.W.Fast.tw12661009021750069673 : Unit := ()
def PySem.W.Fast.tw17568809154386563184 : Unit := ()
def PySem.W.Fast.tw16901722003308472094 : Unit := ()
def PySem.W.Fast.tw11059904670784286484 : Unit := ()
def PySem.W.Fast.tw4297604646691045718 : Unit := ()
def PySem.W.Fast.tw6573786141837996168 : Unit := ()
def PySem.W.Fast.tw15236007093163472744 : Unit := ()
def PySem.W.Fast.tw1544356145703874410 : Unit := ()
def PySem.W.Fast.tw2539964429477445245 : Unit := ()
def PySem.W.Fast.tw10857723554545602429 : Unit := ()
def PySem.W.Fast.tw2159600369508163841 : Unit := ()
def PySem.W.Fast.tw2475316404895766659 : Unit := ()
def PySem.W.Fast.tw15938902104539564834 : Unit := ()
def PySem.W.Fast.tw5329524714905852443 : Unit := ()
def PySem.W.Fast.tw15496145150745310894 : Unit := ()
def PySem.W.Fast.tw757605691072622376 : Unit := ()
def PySem.W.Fast.tw11827399205590408777 : Unit := ()
def PySem.W.Fast.tw10578963053289231633 : Unit := ()
def PySem.W.Fast.tw11919604462067744058 : Unit := ()
def PySem.W.Fast.tw18039054703551173786 : Unit := ()
def PySem.W.Fast.tw439202190484739533 : Unit := ()
def PySem.W.Fast.tw7093503210434499270 : Unit := ()
def PySem.W.Fast.tw10744317424785908794 : Unit := ()
def PySem.W.Fast.tw17677339538997466966 : Unit := ()
def PySem.W.Fast.tw16903415540735058663 : Unit := ()
def PySem.W.Fast.tw10711267971481281857 : Unit := ()
def PySem.W.Fast.tw20417801740995910 : Unit := ()
def PySem.W.Fast.tw17167969054435883473 : Unit := ()
def PySem.W.Fast.tw2858335978326623384 : Unit := ()
def PySem.W.Fast.tw17539100881881115688 : Unit := ()
def PySem.W.Fast.tw17831681801234506917 : Unit := ()
def PySem.W.Fast.tw17162981128798339334 : Unit := ()
def PySem.W.Fast.tw18300450637851493154 : Unit := ()
def PySem.W.Fast.tw8125844026821094594 : Unit := ()
def PySem.W.Fast.tw7644700268151605237 : Unit := ()
def PySem.W.Fast.tw1952384276328988238 : Unit := ()
def PySem.W.Fast.tw10976748969595415816 : Unit := ()
def PySem.W.Fast.tw2381496748998135658 : Unit := ()
def PySem.W.Fast.tw1440672707099431206 : Unit := ()
def PySem.W.Fast.tw7374818529878695468 : Unit := ()
def PySem.W.Fast.tw8389826662962089403 : Unit := ()
def PySem.W.Fast.tw9915970290645835296 : Unit := ()
def PySem.W.Fast.tw8645118212650108380 : Unit := ()
def PySem.W.Fast.tw7350130757010594737 : Unit := ()
def PySem.W.Fast.tw420305873003711159 : Unit := ()
def PySem.W.Fast.tw3851256712371185202 : Unit := ()
def PySem.W.Fast.tw8865707689439836246 : Unit := ()
def PySem.W.Fast.tw7949267809043902523 : Unit := ()
def PySem.W.Fast.tw13121411448970616887 : Unit := ()
def PySem.W.Fast.tw3836291911310585061 : Unit := ()
def PySem.W.Fast.tw10616105791045137355 : Unit := ()
def PySem.W.Fast.tw28741156935222120 : Unit := ()
def PySem.W.Fast.tw8515340636401526110 : Unit := ()
def PySem.W.Fast.tw15617141039475704010 : Unit := ()
def PySem.W.Fast.tw2082245627146397541 : Unit := ()
def PySem.W.Fast.tw7695954007484161392 : Unit := ()
def PySem.W.Fast.tw8178054259935886401 : Unit := ()
def PySem.W.Fast.tw12291145874625740452 : Unit := ()
def PySem.W.Fast.tw196224311579084872 : Unit := ()
open PySem PySem.W PyProof.Rows
set_option maxRecDepth 100000 in
set_option maxHeartbeats 0 in
theorem PySem.Challenge.cw_tapeproof_k41_moves_told_holds : PySem.Challenge.rw_tapeproof_k41_moves_told.Holds := by
  w_on; o_law; z_head; (case hw=>w_witness2)
  k_fill
  refine V.walkX_of (fun P=>?E) (V.walk (l:=PySem.Challenge.rw_tapeproof_k41_moves_told) [24,37,49,61,73,85,97,109,121,133,152,202] rfl rfl rfl (fun w h Y=>Y) ?F L3.law_true)
  case E=>kernel_rfl
  case F =>
    intro w mg h KX G
    refine' V.z_mk KX G ?_ ?_ ?_ ?_ ?_ ?_ ?_ ?_ ?_ ?_ ?_ ?_ ?_ ?_ ?_ ?_ ?_ ?_ ?_ ?_ ?_ ?_ ?_ ?_ ?_ ?_ ?_ ?_ ?_ ?_ ?_ ?_ ?_ ?_ ?_ ?_ ?_ ?_ ?_ ?_ ?_ ?_ ?_ ?_ ?_ ?_ ?_ ?_ ?_ ?_ ?_ ?_ ?_ ?_ ?_ ?_ ?_ ?_ ?_ ?_ ?_ ?_ ?_ ?_ ?_ ?_ ?_ ?_ ?_ ?_ ?_ ?_ ?_ ?_ ?_ ?_ ?_ ?_ ?_ ?_ ?_ ?_ ?_ ?_ ?_ ?_ ?_ ?_ ?_ ?_ ?_ ?_ ?_ ?_ ?_ ?_ ?_ ?_ ?_ ?_ ?_ ?_ ?_ ?_ ?_ ?_ ?_ ?_ ?_ ?_ ?_ ?_ ?_ ?_ ?_ ?_ ?_
    rotate_right 117
    iterate 12 (focus k_is)
    iterate 56 (focus (refine' V.fa_mk ?_ ?_ ?_ ?_; rotate_right 4; iterate 4 focus k_is))
    iterate 27 (focus k_is)
    iterate 1 (focus kernel_rfl)
    iterate 1 (focus k_is)
    iterate 1 (focus kernel_rfl)
    iterate 2 (focus k_is)
    iterate 13 (focus kernel_rfl)
    iterate 3 (focus k_exc)
    iterate 1 (focus kernel_rfl)
