import PyProof.Rows.All
import Wide.All
import OpenK.AllK
import Wide.FinOn
import Lean
import PyProof.EqAt
import PyProof.EqKinds
import PyProof.TupleCall
import PySem.Challenge.RW_tapeproof_k60_least_rounds
local macro_rules | `(tactic| omega) => `(tactic| lia)
set_option Elab.async false
set_option linter.all false
set_option maxRecDepth 100000
abbrev Ua:=@PySem.wpAny_bind
abbrev Ub:=@PySem.Heap.get?_push_of_some
abbrev Uc:=@if_pos
abbrev Ud:=@Bool.false_ne_true
abbrev Ue:=@List.getElem?_eq_some_iff
abbrev Uf:=@List.mem_singleton
abbrev Ug:=@Nat.le_refl
abbrev Uh:=@if_neg
abbrev Ui:=@List.getElem?_set_ne
abbrev Uj:=@PySem.wpAny_pure
abbrev Uk:=@PySem.Heap.lt_size
abbrev Ul:=@PySem.Heap.get?_push_size
abbrev Um:=@List.length_map
abbrev Uo:=@List.size_toArray
abbrev Uq:=@decide_eq_false
abbrev Ur:=@List.mem_cons_self
abbrev Us:=@decide_eq_true
abbrev Ut:=@List.mem_cons_of_mem
abbrev Uu:=@List.mem_cons
abbrev Uv:=@List.mem_append_right
abbrev Uw:=@Nat.lt_of_lt_of_le
abbrev Ux:=@Nat.le_trans
abbrev Uy:=@List.getElem?_append_left
abbrev Uz:=@List.mem_append
abbrev UA:=@List.find?_cons
abbrev UB:=@List.length_append
abbrev UC:=@PySem.W.mg_none_of
abbrev UD:=@Bool.and_eq_true
abbrev UE:=@Nat.ne_of_lt
abbrev UG:=@PyProof.Rows.callWith_type1
abbrev UH:=@List.map_cons
abbrev UI:=@of_decide_eq_true
abbrev UJ:=@List.getElem?_append_right
abbrev UK:=@List.getElem?_map
abbrev UL:=@List.mem_filter
abbrev UM:=@PySem.wpAny_field
abbrev UN:=@List.length_cons
abbrev UO:=@decide_eq_true_eq
abbrev UP:=@List.getElem?_eq_none_iff
abbrev UQ:=@List.mem_append_left
abbrev UR:=@List.length_set
abbrev US:=@List.pairwise_cons
abbrev UT:=@beq_eq_false_iff_ne
abbrev UU:=@PySem.W.kia_one
abbrev UV:=@List.map_append
abbrev UW:=@List.getElem?_set_self
abbrev UX:=@Int.emod_lt_of_pos
abbrev UY:=@Array.length_toList
abbrev UZ:=@List.getElem_mem
abbrev U0:=@List.length_replicate
abbrev U1:=@List.take_succ_eq_append_getElem
abbrev U2:=@PySem.wpAny_newObj_type
abbrev U3:=@Nat.le_of_lt
abbrev U4:=@Array.getElem?_eq_some_iff
abbrev U5:=@List.pairwise_append
abbrev U6:=@List.append_nil
abbrev U7:=@PySem.Heap.get?_update_other
abbrev U8:=@List.filter_cons
abbrev U9:=@PySem.wpAny_truthy_bool
abbrev Ta:=@PySem.builtinLookup_eq_fast
abbrev Tc:=@PySem.wpAny_mono
abbrev Td:=@beq_iff_eq
abbrev Te:=@Int.emod_nonneg
abbrev Tf:=@PySem.wpAny_callSpecial?_slot
abbrev Tg:=@PySem.wpAny_call_entry
abbrev Th:=@List.all_eq_true
abbrev Ti:=@Nat.lt_irrefl
abbrev Tj:=@Bool.false_eq_true
abbrev Tk:=@PySem.Obj.data_mapFields
abbrev Tl:=@Nat.lt_succ_self
abbrev Tn:=@List.not_mem_nil
abbrev To:=@List.getElem?_eq_getElem
abbrev Tq:=@PySem.Heap.size_push
abbrev Tr:=@PySem.wpAny_seqItems
abbrev Ts:=@Bool.eq_iff_iff
abbrev Tt:=@PySem.wpAny_specialOf
abbrev Tu:=@List.filterMap_cons
abbrev Tv:=@PySem.mem_of_lookup
abbrev Tw:=@PySem.Heap.SameBut.update
abbrev Tx:=@Option.map_eq_some_iff
abbrev Tz:=@List.any_cons
abbrev TB:=@List.mem_reverse
abbrev TC:=@PySem.W.mg_of
abbrev TD:=@PySem.F.slot_tuple_iterator_next
abbrev TF:=@PySem.wpAny_setField_rec
abbrev TH:=@PySem.Heap.get?_update_self
abbrev TJ:=@List.getElem?_eq_none
abbrev TK:=@PySem.wpAny_setField
abbrev TL:=@PySem.wpAny_passesOwn
abbrev TM:=@PySem.typeLookup_type
abbrev TN:=@List.mem_of_getLast?
abbrev TQ:=@List.reverse_cons
abbrev TR:=@List.getElem?_replicate
abbrev TU:=@Nat.le_of_not_lt
abbrev TV:=@PySem.wpAny_isInstance
abbrev TW:=@List.take_length
abbrev TX:=@Nat.zero_le
abbrev TY:=@PySem.wpAny_of_eq
abbrev TZ:=@PySem.Obj.isFreed_of_fields
abbrev T0:=@Int.toNat_natCast
abbrev T1:=@List.mem_range
abbrev T2:=@congrArg
abbrev T3:=@List.replicate_succ
abbrev T4:=@Int.toNat_of_nonneg
abbrev T5:=@PySem.F.args_tuple_add_2
abbrev T6:=@List.all_cons
abbrev T7:=@beq_false_of_ne
abbrev T8:=@PySem.wpAny_Call_Name_kw
abbrev T9:=@List.filter_append
abbrev Ra:=@PySem.F.entry_tuple_add
abbrev Rb:=@List.getElem?_cons_succ
abbrev Rc:=@List.getElem?_cons_zero
abbrev Re:=@PySem.sizeLine_eq
abbrev Rf:=@Int.le_refl
abbrev Rg:=@PySem.F.slot_tuple_add
abbrev Rh:=@PySem.F.slot_tuple_hash
abbrev Ri:=@PySem.isSubtype_type
abbrev Rj:=@Nat.ne_of_gt
abbrev Rk:=@List.mem_map
abbrev Rl:=@List.getElem?_toArray
abbrev Rm:=@if_false
abbrev Rn:=@PySem.wpAny_holding
abbrev Ro:=@PySem.wpAny_rule
abbrev Rq:=@Bool.not_true
abbrev Rr:=@List.getElem?_of_mem
abbrev Rs:=@PySem.wpAny_updateSeq_pair
abbrev Rt:=@PySem.wpAny_attempt
abbrev Ru:=@PySem.Around.under_plainId
abbrev Rv:=@Int.lt_irrefl
abbrev Rw:=@List.replicate_succ'
abbrev Rx:=@PySem.F.args_tuple_iterator_next_1
abbrev Ry:=@PySem.wpAny_execs_nil
abbrev Rz:=@List.nodup_cons
abbrev RA:=@PySem.F.slot_zip_next
abbrev RB:=@PySem.W.plainGet_of
abbrev RC:=@if_true
abbrev RD:=@Bool.or_eq_true_iff
abbrev RE:=@List.length_reverse
abbrev RF:=@List.length_pos_iff
abbrev RG:=@PySem.F.entry_tuple_iterator_next
abbrev RH:=@List.set_set
abbrev RI:=@PySem.Calls.Name_function_global
abbrev RJ:=@Array.append_assoc
abbrev RK:=@PyProof.Rows.assignInOrder_cons
abbrev RL:=@List.mem_filterMap
abbrev RM:=@PySem.SeqAt.EqAt.int_int
abbrev RN:=@PySem.wpAny_tupleItemsOf
abbrev RO:=@PySem.W.callWith_K
abbrev RP:=@PySem.F.slot_dict_getitem
abbrev RQ:=@List.getLast?_eq_getElem?
abbrev RS:=@PySem.W.kitx_list
abbrev RT:=@PySem.Obj.cls_mapFields
abbrev RU:=@PySem.wpAny_pyIter_list
abbrev RW:=@PySem.wpAny_standAt
abbrev RX:=@Nat.add_assoc
abbrev RY:=@PySem.wpAny_onRaise
abbrev RZ:=@PySem.F.plainAttrs_list
abbrev R0:=@PySem.F.plainAttrs_dict
abbrev Wa:=@List.mem_singleton_self
abbrev Wb:=@List.getElem_inj
abbrev Wc:=@List.length_take
abbrev Wd:=@PySem.noFill_tuple_add
abbrev We:=@PySem.wpAny_forIn_list
abbrev Wh:=@PyProof.noPylong_small
abbrev Wi:=@PySem.W.cellsFrom_some
abbrev Wl:=@Array.getElem?_eq_none
abbrev Wm:=@List.length_pos_of_mem
abbrev Wn:=@PySem.codeAny_mono
abbrev Wo:=@Nat.zero_add
abbrev Wp:=@List.of_mem_zip
abbrev Wr:=@PySem.F.slot_tuple_eq
abbrev Ws:=@List.forIn_cons
abbrev Wt:=@PySem.codeAny_builtin
abbrev Wu:=@List.range_succ
abbrev Wv:=@List.length_singleton
abbrev Ww:=@Array.getElem?_toList
abbrev Wy:=@PySem.W.methodCall_KW
abbrev Wz:=@List.dropLast_eq_take
abbrev WA:=@List.length_filter_le
abbrev WB:=@PySem.F.slot_dict_pop
abbrev WC:=@PySem.F.slot_dict_get
abbrev WE:=@List.mem_of_getElem?
abbrev WG:=@List.length_dropLast
abbrev WH:=@Bool.and_eq_true_iff
abbrev WJ:=@List.forIn_nil
abbrev Bn:=@Int.zero_add
abbrev BA:=@Nat.le_succ
open PySem.W (Frag InitBack Looks any_some bind_fn callWith_K callWith_K0 cellsFrom_some codeIn codeRec_of emptyDict eq_bytes findIn findObj_own fnOf get_value handedIn hasDictIn hideAll hideAll_get hideAll_none hideAll_size instObj isFn kdl_call kdl_dict keepIn ki_setAt ki_setBack kia_one kitOne kitx_bool kitx_dict kitx_float kitx_int kitx_list kitx_none kitx_own kitx_str kitx_tuple lookIn looks_clsIn looks_findIn make_core makesIn makes_of methodCall_KW methodObj method_fn mg_none_of mg_of mroIn ne_bytes nsIn of_hideAll osa_open plainGet plainGet_of plainOver set_plain specialIn takerIn takesIn typeIn)
namespace L2
open PySem PySem.Spec PyProof.Rows
section
noncomputable abbrev Key:=Sum Int Str
noncomputable def QeE:Key->Value->Bool
 |.inl k,v=>Value.isInt k v
 |.inr x,v=>Value.isStrOf x v
noncomputable def keyH(w:World):Key->Int
 |.inl k=>hashInt k
 |.inr x=>hashStr w x
theorem Q1:∀{k:Key}{v:Value},QeE k v=true->(∃i t,k=Sum.inl i/\v=Value.int i t)\/(∃x t,k=Sum.inr x/\v=Value.str x t)
 |.inl i,v,h=>by
  obtain⟨t,e⟩:=Value.isInt_shape (k:=i) (v:=v) h
  exact .inl ⟨i,t,rfl,e⟩
 |.inr x,v,h=>by
  obtain⟨t,e⟩:=Value.isStrOf_shape (x:=x) (v:=v) h
  exact .inr ⟨x,t,rfl,e⟩
theorem Qg1(i:Int)(t:Tok):QeE (.inl i) (.int i t)=true:=by simp[QeE,Value.isInt]
theorem Qg2(x:Str)(t:Tok):QeE (.inr x) (.str x t)=true:=by simp[QeE,Value.isStrOf]
theorem Ql8(a b:Int):decide ((Sum.inl a:Key)=Sum.inl b)=(a == b):=by
 by_cases e:a=b
 ·subst e;simp
 ·have h:¬(Sum.inl a:Key)=Sum.inl b:=λq=>e (Sum.inl.inj q)
  rw[Uq h]
  exact(UT.mpr e).symm
theorem Ql9(a b:Str):decide ((Sum.inr a:Key)=Sum.inr b)=decide (a=b):=by
 by_cases e:a=b
 ·subst e;simp
 ·have h:¬(Sum.inr a:Key)=Sum.inr b:=λq=>e (Sum.inr.inj q)
  rw[Uq h,Uq e]
theorem Qma(a:Int)(b:Str):decide ((Sum.inl a:Key)=Sum.inr b)=false:=Uq (λq=>nomatch q)
theorem Qmb(a:Str)(b:Int):decide ((Sum.inr a:Key)=Sum.inl b)=false:=Uq (λq=>nomatch q)
noncomputable def Z6(prog:Program)(w:World):PySem.KeyKind prog w Key where
 is:=QeE
 hash:=keyH w
 inj:=λv a b ha hb=>by
  rcases Q1 ha with⟨i,t,rfl,rfl⟩|⟨x,t,rfl,rfl⟩
  ·rcases Q1 hb with⟨j,u,rfl,e⟩|⟨y,u,rfl,e⟩
   ·injection e with e1 _;rw[e1]
   ·exact nomatch e
  ·rcases Q1 hb with⟨j,u,rfl,e⟩|⟨y,u,rfl,e⟩
   ·exact nomatch e
   ·injection e with e1 _;rw[e1]
 byValue:=λk v h=>by
  rcases Q1 h with⟨i,t,rfl,rfl⟩|⟨x,t,rfl,rfl⟩ <;> rfl
 pyHash:=λhv h=>by
  rcases Q1 hv with⟨i,t,rfl,rfl⟩|⟨x,t,rfl,rfl⟩
  ·exact wpAny_pyHash_int h
  ·exact wpAny_pyHash_str h
 eqBool:=λhu hv h=>by
  rcases Q1 hu with⟨i,t,rfl,rfl⟩|⟨x,t,rfl,rfl⟩
  ·rcases Q1 hv with⟨j,u,rfl,rfl⟩|⟨y,u,rfl,rfl⟩
   ·rw[Ql8]at h;exact wpAny_eqBool_int h
   ·rw[Qma]at h;exact SeqAt.EqAt.int_str i t y u _ _ _ _ h
  ·rcases Q1 hv with⟨j,u,rfl,rfl⟩|⟨y,u,rfl,rfl⟩
   ·rw[Qmb]at h;exact SeqAt.EqAt.str_int x t j u _ _ _ _ h
   ·rw[Ql9]at h;exact wpAny_eqBool_str h
 «strs»:=λk x t v h=>by
  rcases Q1 h with⟨i,u,rfl,e⟩|⟨y,u,rfl,e⟩
  ·exact nomatch e
  ·injection e with e1 _
   subst e1
   cases v <;> rfl
theorem QeF(prog:Program)(w:World)(i:Int)(t:Tok):(Z6 prog w).is (.inl i) (.int i t)=true:=Qg1 i t
theorem QeG(prog:Program)(w:World)(x:Str)(t:Tok):(Z6 prog w).is (.inr x) (.str x t)=true:=Qg2 x t
end
section
inductive V where
 |non|bl (b:Bool)|int (i:Int)|str (x:Str)|byt (b:Array UInt8)|flt (b:UInt64)|ref (a:Addr)|ty (n:String)
 deriving DecidableEq
noncomputable def RelV:V->Value->Prop
 |.non,u=>u=Value.none
 |.bl b,u=>u=Value.bool b
 |.int i,u=>∃t,u=Value.int i t
 |.str x,u=>∃t,u=Value.str x t
 |.byt b,u=>∃t,u=Value.bytes b t
 |.flt b,u=>∃t,u=Value.float b t
 |.ref a,u=>u=Value.ref a
 |.ty n,u=>u=Value.type n
noncomputable abbrev Vals:List V->List Value->Prop:=Paired RelV
theorem Vals.length{xs:List V}{us:List Value}(r:Vals xs us):xs.length=us.length:=Paired.length r
theorem Vals.get:∀{xs:List V}{us:List Value}{i:Nat}{x:V},Vals xs us->xs[i]?=some x->∃u,us[i]?=some u/\RelV x u
 |_,_,_,_,.nil,e=>by simp at e
 |_,_,0,_,.cons r _,e=>by simp at e;subst e;exact⟨_,rfl,r⟩
 |_,_,i+1,x,.cons _ t,e=>by
  obtain⟨u,h1,h2⟩:=Vals.get (i:=i) (x:=x) t (by simpa using e)
  exact⟨u,by simpa using h1,h2⟩
theorem Vals.set{x:V}{u:Value}(r:RelV x u):∀{xs:List V}{us:List Value}(i:Nat),Vals xs us->Vals (xs.set i x) (us.set i u)
 |_,_,_,.nil=>.nil
 |_,_,0,.cons _ t=>.cons r t
 |_,_,i+1,.cons q t=>.cons q (Vals.set r i t)
theorem Vals.append:∀{xs ys:List V}{us ws:List Value},Vals xs us->Vals ys ws->Vals (xs++ys) (us++ws)
 |_,_,_,_,.nil,s=>s
 |_,_,_,_,.cons r t,s=>.cons r (Vals.append t s)
theorem Vals.take:∀{xs:List V}{us:List Value}(n:Nat),Vals xs us->Vals (xs.take n) (us.take n)
 |_,_,0,_=>.nil
 |_,_,_+1,.nil=>.nil
 |_,_,n+1,.cons r t=>.cons r (Vals.take n t)
theorem Vals.drop:∀{xs:List V}{us:List Value}(n:Nat),Vals xs us->Vals (xs.drop n) (us.drop n)
 |_,_,0,r=>r
 |_,_,_+1,.nil=>.nil
 |_,_,n+1,.cons _ t=>Vals.drop n t
theorem Vals.none_of:∀{xs:List V}{us:List Value}{i:Nat},Vals xs us->xs[i]?=none->us[i]?=none:=λ{xs us i} r e=>by
 have h1:=r.length
 have h2:xs.length<=i:=UP.mp e
 exact UP.mpr (by omega)
noncomputable def RelO:Option V->Option Value->Prop
 |some v,some u=>RelV v u
 |none,none=>True
 |_,_=>False
noncomputable def KV{κ:Type}:List (κ×V)->List (κ×Value)->Prop:=Paired λ(p:κ×V)(q:κ×Value)=>p.1=q.1/\RelV p.2 q.2
noncomputable def kV:Key->V
 |.inl i=>.int i
 |.inr x=>.str x
inductive HO where
 /-- a list -/
 |lst (xs:List V)
 /-- a tuple (never changes) -/
 |tup (xs:List V)
 /-- a dict whose keys are ints and texts;one whose keys are tuples of ints and texts (the empty one is both) -/
 |dK (kvs:List (Key×V))|dT (kvs:List (List Key×V))
 /-- a set of ints: its members,its size -/
 |set (S:Int->Bool) (n:Nat)
 /-- an instance of the class at C,its dict at dx,its attributes -/
 |ins (C dx:Addr) (fs:List (Str×V))
 /-- the dict of the instance at x -/
 |own (x:Addr)
 /-- the dict of an exception -/
 |xd (fs:List (Str×V))
 /-- a bound method,f of x -/
 |met (f x:Addr)
 /-- a range object lo,lo+1,.. below hi -/
 |rng (lo hi:Int)
 /-- a thing that is known to the object (the script;a dict while a loop walks it): read,never written while it is so -/
 |frz (o:Obj) (u:HO)
 /-- a code object's table -/
 |tbl (ps:Array Value)
 /-- any other thing,by what is true of its one object (a def of one's own: SetO a S n:=HO.ext λh=>..) -/
 |ext (φ:Heap->Prop)
noncomputable abbrev Hp:=Addr->Option HO
noncomputable def upd(H:Hp)(a:Addr)(o:HO):Hp:=λb=>if b=a then some o else H b
theorem Qq{H:Hp}{a:Addr}{o:HO}:upd H a o a=some o:=by unfold upd;rw[Uc rfl]
theorem Qs{H:Hp}{a b:Addr}{o:HO}(h:b≠a):upd H a o b=H b:=by unfold upd;rw[Uh h]
theorem QcX{H:Hp}{a b:Addr}{o u:HO}(h:H a=some o)(h':H b=some u)(d:o≠u):a≠b:=by
 intro e;subst e;rw[h]at h';exact d (Option.some.inj h')
theorem QM{H:Hp}{a b:Addr}{o:HO}(h:H a=some o)(h':H b=none):a≠b:=by
 intro e;subst e;rw[h]at h';cases h'
section
variable(P:Program)(w:World)
noncomputable def ObjOk(H:Hp)(h:Heap)(a:Addr):HO->Prop
 |.lst xs=>xs.length<=sizeLine/\∃(its:List Value)(n:Nat),Vals xs its/\h.get? a=some {cls:=.type "list",data:=.seq its.toArray n}
 |.tup xs=>xs.length<=sizeLine/\∃its:List Value,Vals xs its/\IsTup h a its.toArray
 |.dK kvs=>kvs.length<=sizeLine/\(a == sysModules)=false/\∃vs,KV kvs vs/\h.DictOf (Z6 P w) a vs
 |.dT kvs=>kvs.length<=sizeLine/\(a == sysModules)=false/\∃xs:List (List Key×Addr×Value),
   Paired (λ(p:List Key×V)(q:List Key×Addr×Value)=>p.1=q.1/\H q.2.1=some (.tup (p.1.map kV))/\RelV p.2 q.2.2) kvs xs /\
   ∃o es ep,h.get? a=some o/\o.ExactDict/\o.data=.dict es ep/\es.toList=xs.map (entryOfKey (tupleKind (Z6 P w)))/\(xs.map (·.1)).Nodup
 |.set S n=>h.SetOf (intKind P w) a S n
 |.ins C dx fs=>H dx=some (.own a)/\fs.length<=1000/\dx≠a/\h.get? a=some (instObj C dx) /\
   ∃mA,h.Ns1 dx mA/\(∀f,RelO (fs.lookup f) (mA f))/\PySem.Within mA (fs.map (·.1))
 |.own _=>∃o,h.get? a=some o
 |.xd fs=>∃mA,h.Ns1 a mA/\∀f,RelO (fs.lookup f) (mA f)
 |.rng lo hi=>∃t u v,h.get? a=some {cls:=.type "range",data:=.fields #[.int lo t,.int hi u,.int 1 v]}
 |.frz o u=>h.get? a=some o/\ObjOk H h a u
 |.tbl ps=>h.get? a=some {cls:=.none,data:=.fields ps}
 |.met f x=>h.get? a=some (methodObj (.ref f) (.ref x))
 |.ext φ=>φ h/\(∃o,h.get? a=some o)/\∀h1 h2:Heap,φ h1->(∀o,h1.get? a=some o->h2.get? a=some o)->φ h2
def HOk(H:Hp)(h:Heap):Prop:=∀a o,H a=some o->ObjOk P w H h a o
end
section
variable{P:Program}{w:World}{H H':Hp}{h h':Heap}{a:Addr}{o:HO}
theorem ObjOk.lt(x:ObjOk P w H h a o):a<h.objs.size:=by
 cases o with
 |lst xs=>obtain⟨_,_,_,_,e⟩:=x;exact Uk e
 |tup xs=>obtain⟨_,_,_,p⟩:=x;exact p.lt
 |dK kvs=>obtain⟨_,_,_,_,o,_,_,e,_⟩:=x;exact Uk e
 |dT kvs=>obtain⟨_,_,_,_,o,_,_,e,_⟩:=x;exact Uk e
 |set S n=>obtain⟨o,_,_,_,e,_⟩:=x;exact Uk e
 |ins C dx fs=>obtain⟨_,_,_,e,_⟩:=x;exact Uk e
 |own y=>obtain⟨_,e⟩:=x;exact Uk e
 |xd fs=>obtain⟨_,⟨_,_,_,e,_⟩,_⟩:=x;exact Uk e
 |rng lo hi=>obtain⟨_,_,_,e⟩:=x;exact Uk e
 |frz ob u=>obtain⟨e,_⟩:=x;exact Uk e
 |tbl ps=>exact Uk (show h.get? a=some _ from x)
 |met f y=>exact Uk (show h.get? a=some _ from x)
 |ext φ=>obtain⟨_,⟨_,e⟩,_⟩:=x;exact Uk e
theorem Paired.mapP{α β:Type}{F G:α->β->Prop}:∀{l₁:List α}{l₂:List β},Paired F l₁ l₂->(∀a b,F a b->G a b)->Paired G l₁ l₂
 |_,_,.nil,_=>.nil
 |_,_,.cons r t,f=>.cons (f _ _ r) (Paired.mapP t f)
theorem Paired.imp'{α β:Type}{F G:α->β->Prop}(f:∀a b,F a b->G a b){l₁:List α}{l₂:List β}(r:Paired F l₁ l₂):Paired G l₁ l₂:=Paired.mapP r f
theorem ObjOk.stay(x:ObjOk P w H h a o)(k:∀b u,(b=a\/H b=some (.own a))->h.get? b=some u->h'.get? b=some u)(ho:∀b,H b=some (.own a)->H' b=some (.own a))(ht:∀b xs,H b=some (.tup xs)->H' b=some (.tup xs)):ObjOk P w H' h' a o:=by
 induction o with
 |lst xs=>obtain⟨z,its,n,r,e⟩:=x;exact⟨z,its,n,r,k _ _ (.inl rfl) e⟩
 |tup xs=>obtain⟨z,its,r,ob,e,c⟩:=x;exact⟨z,its,r,ob,k _ _ (.inl rfl) e,c⟩
 |dK kvs=>obtain⟨z,y,vs,r,ob,es,ep,e,c⟩:=x;exact⟨z,y,vs,r,ob,es,ep,k _ _ (.inl rfl) e,c⟩
 |dT kvs =>
  obtain⟨z,y,xs,r,ob,es,ep,e,c⟩:=x
  exact⟨z,y,xs,Paired.mapP r λp q z=>⟨z.1,ht _ _ z.2.1,z.2.2⟩,ob,es,ep,k _ _ (.inl rfl) e,c⟩
 |set S n=>obtain⟨ob,es,ep,t,e,c⟩:=x;exact⟨ob,es,ep,t,k _ _ (.inl rfl) e,c⟩
 |ins C dx fs =>
  obtain⟨d,z,ne,e,mA,⟨od,es,ep,e2,c⟩,r⟩:=x
  exact⟨ho _ d,z,ne,k _ _ (.inl rfl) e,mA,⟨od,es,ep,k _ _ (.inr d) e2,c⟩,r⟩
 |own y=>obtain⟨ob,e⟩:=x;exact⟨ob,k _ _ (.inl rfl) e⟩
 |xd fs=>obtain⟨mA,⟨od,es,ep,e,c⟩,r⟩:=x;exact⟨mA,⟨od,es,ep,k _ _ (.inl rfl) e,c⟩,r⟩
 |rng lo hi=>obtain⟨t,u,v,e⟩:=x;exact⟨t,u,v,k _ _ (.inl rfl) e⟩
 |frz ob u ih=>obtain⟨e,q⟩:=x;exact⟨k _ _ (.inl rfl) e,ih q⟩
 |tbl ps =>
  have e:h.get? a=some {cls:=.none,data:=.fields ps}:=x
  show h'.get? a=some {cls:=.none,data:=.fields ps}
  exact k a _ (.inl rfl) e
 |met f y =>
  have e:h.get? a=some (methodObj (.ref f) (.ref y)):=x
  show h'.get? a=some (methodObj (.ref f) (.ref y))
  exact k a _ (.inl rfl) e
 |ext φ=>obtain⟨p,⟨o,e⟩,st⟩:=x;exact⟨st _ _ p λo q=>k _ _ (.inl rfl) q,⟨o,k _ _ (.inl rfl) e⟩,st⟩
theorem HOk.lt(x:HOk P w H h)(e:H a=some o):a<h.objs.size:=(x a o e).lt
theorem HOk.fresh(x:HOk P w H h)(e:h.objs.size<=a):H a=none:=by
 cases q:H a with
 |none=>rfl
 |some u=>exact absurd (Uw (x.lt q) e) (Ti _)
theorem HOk.kept(x:HOk P w H h)(k:∀b u,h.get? b=some u->h'.get? b=some u):HOk P w H h':=λa o e =>
 (x a o e).stay (λb u _ q=>k b u q) (λ_ q=>q) λ_ _ q=>q
theorem HOk.laid(x:HOk P w H h)(k:∀b u,h.get? b=some u->h'.get? b=some u)(hp:h.objs.size<=a)(new:ObjOk P w (upd H a o) h' a o):HOk P w (upd H a o) h':=λb u e=>by
 have hn:=x.fresh hp
 by_cases hb:b=a
 ·subst hb;rw[Qq]at e;cases e;exact new
 ·rw[Qs hb]at e
  exact(x b u e).stay (λc v _ q=>k c v q) (λc q=>by rw[Qs (QM q hn)];exact q) λc xs q=>by rw[Qs (QM q hn)];exact q
end
def Rd(H:Hp)(a:Addr)(u:HO):Prop:=H a=some u\/∃o,H a=some (.frz o u)
theorem Rd.of{H:Hp}{a:Addr}{u:HO}(h:H a=some u):Rd H a u:=.inl h
theorem Rd.ok{P:Program}{w:World}{H:Hp}{h:Heap}{a:Addr}{u:HO}(r:Rd H a u)(x:HOk P w H h):ObjOk P w H h a u:=by
 rcases r with r|⟨o,r⟩
 ·exact x a u r
 ·obtain⟨_,q⟩:=x a _ r
  exact q
noncomputable def Mut:Option HO->Prop
 |some (.lst _)=>True
 |some (.dK _)=>True
 |some (.dT _)=>True
 |some (.set _ _)=>True
 |some (.ins _ _ _)=>True
 |some (.ext _)=>True
 |_=>False
section
variable{P:Program}{w:World}{H:Hp}{h h':Heap}{x e:Addr}{o':HO}
theorem HOk.write(ok:HOk P w H h)(mu:Mut (H x))(he:e=x\/H e=some (.own x))(k:∀b u,b≠e->h.get? b=some u->h'.get? b=some u)(heo:∃u,h'.get? e=some u)(new:ObjOk P w (upd H x o') h' x o'):HOk P w (upd H x o') h':=λb u q=>by
 have nown:∀c y,H c=some (.own y)->c≠x:=λc y r z=>by subst z;rw[r]at mu;exact mu
 have ntup:∀c xs,H c=some (.tup xs)->c≠x:=λc xs r z=>by subst z;rw[r]at mu;exact mu
 by_cases hb:b=x
 ·subst hb;rw[Qq]at q;cases q;exact new
 ·rw[Qs hb]at q
  by_cases hbe:b=e
  ·have q':H b=some (.own x):=by
    rcases he with z|z
    ·exact absurd (hbe.trans z) hb
    ·rw[hbe];exact z
   rw[q]at q';cases q'
   obtain⟨v,hv⟩:=heo
   exact⟨v,by rw[hbe];exact hv⟩
  ·refine(ok b u q).stay (λc v hc r=>k c v ?_ r) (λc r=>by rw[Qs (nown c b r)];exact r) λc xs r=>by rw[Qs (ntup c xs r)];exact r
   rcases hc with rfl|hc
   ·exact hbe
   ·rintro rfl
    rcases he with z|z
    ·exact nown c b hc z
    ·rw[hc]at z;cases z;exact hb rfl
end
structure Un(fs ex:List Addr)(H H':Hp)(h h':Heap):Prop where
 keep:∀b o,h.get? b=some o->H b=none->b∉fs->b∉ex->h'.get? b=some o
 slot:∀b o,h.get? b=some o->H b=none->b∈fs->b∉ex->∃sl,h'.get? b=some {o with slots:=sl}
 free:∀b o,h.get? b=some o->H b=none->b∉ex->H' b=none
 there:∀b o,h.get? b=some o->b∉ex->∃o',h'.get? b=some o'
 tups:∀b xs,H b=some (.tup xs)->H' b=some (.tup xs)
 frzs:∀b o u,H b=some (.frz o u)->H' b=some (.frz o u)
 tbls:∀b ps,H b=some (.tbl ps)->∃more,H' b=some (.tbl (ps++more))
section
variable{fs fs' ex ex':List Addr}{H H1 H2:Hp}{h h1 h2 h':Heap}{a x e:Addr}{o:HO}
theorem Un.any(u:Un fs ex H H1 h h1){b:Addr}{ob:Obj}(q:h.get? b=some ob)(n:H b=none)(hx:b∉ex):∃sl,h1.get? b=some {ob with slots:=sl}:=by
 by_cases hb:b∈fs
 ·exact u.slot b ob q n hb hx
 ·exact⟨ob.slots,u.keep b ob q n hb hx⟩
theorem Un.trans(a:Un fs ex H H1 h h1)(b:Un fs ex H1 H2 h1 h2):Un fs ex H H2 h h2 where
 keep:=λc ob q n hc hx=>b.keep c ob (a.keep c ob q n hc hx) (a.free c ob q n hx) hc hx
 slot:=λc ob q n hc hx=>by
  obtain⟨sl,e1⟩:=a.slot c ob q n hc hx
  obtain⟨sl',e2⟩:=b.slot c _ e1 (a.free c ob q n hx) hc hx
  exact⟨sl',e2⟩
 free:=λc ob q n hx=>by
  obtain⟨o',e1⟩:=a.there c ob q hx
  exact b.free c o' e1 (a.free c ob q n hx) hx
 there:=λc ob q hx=>by
  obtain⟨o',e1⟩:=a.there c ob q hx
  exact b.there c o' e1 hx
 tups:=λc xs q=>b.tups c xs (a.tups c xs q)
 frzs:=λc ob xs q=>b.frzs c ob xs (a.frzs c ob xs q)
 tbls:=λc ps q=>by
  obtain⟨m1,e1⟩:=a.tbls c ps q
  obtain⟨m2,e2⟩:=b.tbls c _ e1
  exact⟨m1++m2,by rw[e2,RJ]⟩
theorem Un.kept(k:∀b u,h.get? b=some u->h'.get? b=some u):Un fs ex H H h h' :=
 ⟨λb ob q _ _ _=>k b ob q,λb ob q _ _ _=>⟨ob.slots,k b ob q⟩,λ_ _ _ n _=>n,λb ob q _=>⟨ob,k b ob q⟩,λ_ _ q=>q,λ_ _ _ q=>q,λ_ ps q=>⟨#[],by rw[q];simp⟩⟩
theorem Un.refl:Un fs ex H H h h:=Un.kept λ_ _ q=>q
theorem Un.laid(k:∀b u,h.get? b=some u->h'.get? b=some u)(hp:h.objs.size<=a)(hn:H a=none):Un fs ex H (upd H a o) h h' where
 keep:=λb u q _ _ _=>k b u q
 slot:=λb u q _ _ _=>⟨u.slots,k b u q⟩
 free:=λb u q n _=>by rw[Qs (UE (Uw (Uk q) hp))];exact n
 there:=λb u q _=>⟨u,k b u q⟩
 tups:=λb xs q=>by rw[Qs (QM q hn)];exact q
 frzs:=λb u xs q=>by rw[Qs (QM q hn)];exact q
 tbls:=λb ps q=>⟨#[],by rw[Qs (QM q hn),q];simp⟩
theorem Un.write(mu:Mut (H x))(he:e=x\/H e=some (.own x))(k:∀b u,b≠e->h.get? b=some u->h'.get? b=some u)(heo:∃u,h'.get? e=some u):Un fs ex H (upd H x o) h h':=by
 have hx:∀b,H b=none->b≠x:=λb n z=>by subst z;rw[n]at mu;exact mu
 have hb:∀b,H b=none->b≠e:=λb n z=>by
  subst z
  rcases he with r|r
  ·exact hx b n r
  ·rw[n]at r;cases r
 have hm:∀b u,H b=some u->¬Mut (some u)->b≠x:=λb u q nm z=>by subst z;rw[q]at mu;exact nm mu
 refine⟨λb u q n _ _=>k b u (hb b n) q,λb u q n _ _=>⟨u.slots,k b u (hb b n) q⟩,λb u q n _=>by rw[Qs (hx b n)];exact n,λb u q _=>?_,
  λb xs q=>by rw[Qs (hm b _ q λz=>z)];exact q,λb u xs q=>by rw[Qs (hm b _ q λz=>z)];exact q,λb ps q=>⟨#[],by rw[Qs (hm b _ q λz=>z),q];simp⟩⟩
 by_cases hbe:b=e
 ·subst hbe;exact heo
 ·exact⟨u,k b u hbe q⟩
theorem Un.mono(u:Un fs ex H H1 h h1)(hs:∀b∈fs,b∈fs')(hx:∀b∈ex,b∈ex'):Un fs' ex' H H1 h h1 :=
 ⟨λb ob q n hb he=>u.keep b ob q n (λz=>hb (hs b z)) λz=>he (hx b z),λ_ _ q n _ he=>u.any q n λz=>he (hx _ z),λb ob q n he=>u.free b ob q n λz=>he (hx b z),λb ob q he=>u.there b ob q λz=>he (hx b z),u.tups,u.frzs,u.tbls⟩
end
noncomputable def trk(h:Heap)(H:Hp):List Addr:=(List.range h.objs.size).filter λa=>(H a).isSome
noncomputable def hidT(h:Heap)(H:Hp):Heap:=hideAll h (trk h H)
theorem Qg3(h:Heap)(H:Hp):(hidT h H).objs.size=h.objs.size:=hideAll_size _ _
theorem QiU{h:Heap}{H:Hp}{b:Addr}{o:Obj}(e:h.get? b=some o)(n:H b=none):(hidT h H).get? b=some o :=
 hideAll_get _ e λhm=>by
  have q:(H b).isSome=true:=(UL.mp hm).2
  rw[n]at q;simp at q
theorem QkO{h:Heap}{H:Hp}{b:Addr}{o:Obj}(e:(hidT h H).get? b=some o):h.get? b=some o/\H b=none:=by
 have e':h.get? b=some o:=of_hideAll (trk h H) e
 refine⟨e',?_⟩
 cases q:H b with
 |none=>rfl
 |some x =>
  have hm:b∈trk h H:=UL.mpr ⟨T1.mpr (Uk e'),by simp[q]⟩
  have z:(hidT h H).get? b=none:=hideAll_none (trk h H) hm
  rw[z]at e;cases e
noncomputable def QkP(g h:Heap)(L:Addr):List (Addr×Obj):=(List.range h.objs.size).filterMap λa=>if a=L\/(g.get? a).isSome=true then none else (h.get? a).map λo=>(a,o)
noncomputable def rest(g h:Heap)(L d:Addr):List (Addr×Obj):=(QkP g h L).filter λp=>decide (p.1≠d)
end
section
structure Mod(K:Frag)(mg:Str->Option Value)(base:Heap):Prop where
 kin:K.In base
 glob:base.Ns mainGlobals mg
 blt:∃mb,base.Ns builtinsNs mb/\∀x:Str,x ≠ "__name__" -> mb x=bootBuiltins x
 nolimit:base.NoLimit
/-- the context: a def's body (or a comprehension's block) running. base: fixed through the whole law;s₀,H₀: the entry;outer: the frames whose slots others may change (a def's callers);stack: all frames that run;
   ex: iterators that were made ahead of the entry and are walked here (a comprehension's);fn: the names whose cells were made at the entry (a def: all;a comprehension's block: its own);calm: not within an except suite;pn: pins that every state bears;xe: what is wanted of an exception that leaves the code -/
structure Cx where
 prog:Program
 w:World
 K:Frag
 mg:Str->Option Value
 base:Heap
 A:Around
 N:List Str
 s₀:Shared
 H₀:Hp
 env:Env
 outer:List Env
 stack:List Env
 ex:List Addr
 fn:Str->Bool
 calm:Bool
 pn:List (Addr×Obj)
 xe:Value->Shared->Prop
noncomputable def frs(l:List Env):List Addr:=l.filterMap (·.frame)
noncomputable abbrev Cx.fs(X:Cx):List Addr:=frs X.outer
def Vis(sc:Scope)(x:Str):Prop:=sc.names.lookup x=some .local\/sc.names.lookup x=some .cell\/sc.names.lookup x=some .free
def Loc(sc:Scope)(x:Str):Prop:=sc.names.lookup x=some .local\/sc.names.lookup x=some .cell
noncomputable def Look(env:Env)(h:Heap)(m:Str->Option Value)(x:Str)(u:Value):Prop :=
 (env.kindOf x=some .local/\m x=some u)\/((env.kindOf x=some .cell\/env.kindOf x=some .free)/\∃c,env.cells.lookup x=some c/\h.IsCell c (some u))
structure Cx.Ok(X:Cx):Prop where
 mod:Mod X.K X.mg X.base
 kind:X.env.scope.kind=.function
 glob:X.env.globals=mainGlobals
 blt:X.env.builtins=builtinsNs
 above:X.s₀.heap.objs.size<=X.env.locals
 inj:∀x y c,X.env.cells.lookup x=some c->X.env.cells.lookup y=some c->x=y
 has:∀x,(X.env.kindOf x=some .cell\/X.env.kindOf x=some .free)->∃c,X.env.cells.lookup x=some c
 cab:∀x c,X.fn x=true->X.env.cells.lookup x=some c->X.s₀.heap.objs.size<=c
 hd:X.calm=true->X.A.handled=none
 frames:X.A.frames=some X.stack
 stk:X.stack=X.outer\/(X.stack=X.env::X.outer/\X.env.frame=some X.env.locals)
 exf:∀b∈X.ex,b≠X.env.locals/\∀x c,X.env.cells.lookup x=some c->c≠b
 bs:∀b o,X.base.get? b=some o->X.s₀.heap.get? b=some o/\X.H₀ b=none
 bsz:X.base.objs.size<=X.s₀.heap.objs.size
 noex:∀b o,X.base.get? b=some o->b∉X.ex
 exfs:∀b∈X.ex,b∉X.fs
 funs:X.s₀.heap.FunFrames X.base X.outer
 frf:∀b∈X.fs,X.H₀ b=none
structure Inv(X:Cx)(pins:List (Addr×Obj))(σ:List (Option V))(H:Hp)(s:Shared):Prop where
 ok:X.Ok
 os:s.os=X.s₀.os
 bare:AllBare s.gens
 base:Un X.fs X.ex X.H₀ H X.s₀.heap s.heap
 loc:∃m,s.heap.Ns X.env.locals m/\∀(i:Nat)(x:Str)(v:V),X.N[i]?=some x->σ[i]?=some (some v)->Vis X.env.scope x->∃u,RelV v u/\Look X.env s.heap m x u
 cell:∀x c,X.env.cells.lookup x=some c->∃v,s.heap.IsCell c v
 free:H X.env.locals=none
 freeC:∀x c,X.env.cells.lookup x=some c->H c=none
 pin:∀p∈X.pn++pins,s.heap.get? p.1=some p.2/\H p.1=none/\p.1≠X.env.locals/\p.1∉X.fs/\∀v,p.2.data≠.cell v
 hok:HOk X.prog X.w H s.heap
 len:σ.length=X.N.length
section
variable{X:Cx}{pins:List (Addr×Obj)}{σ:List (Option V)}{H H':Hp}{s:Shared}{h':Heap}
theorem Cx.Ok.nofr(ok:X.Ok){b:Addr}{o:Obj}(e:X.base.get? b=some o):b∉X.fs:=λhb=>by
 have:=(ok.funs.mem hb).1
 rw[e]at this;cases this
theorem Inv.bs(I:Inv X pins σ H s):∀b o,X.base.get? b=some o->s.heap.get? b=some o/\H b=none:=λb o e =>
 ⟨I.base.keep b o (I.ok.bs b o e).1 (I.ok.bs b o e).2 (I.ok.nofr e) (I.ok.noex b o e),I.base.free b o (I.ok.bs b o e).1 (I.ok.bs b o e).2 (I.ok.noex b o e)⟩
theorem Inv.bk(I:Inv X pins σ H s):∀b o,X.base.get? b=some o->s.heap.get? b=some o:=λb o e=>(I.bs b o e).1
theorem Inv.mod(I:Inv X pins σ H s):Mod X.K X.mg X.base:=I.ok.mod
theorem Inv.kIn(I:Inv X pins σ H s):X.K.In s.heap:=I.ok.mod.kin.keeps I.bk
theorem Inv.nolimit(I:Inv X pins σ H s):s.heap.NoLimit:=I.ok.mod.nolimit.keeps I.bk
theorem Inv.fr(I:Inv X pins σ H s):∃m,Fr X.base X.env.locals s.heap m :=
 let ⟨m,hn,_⟩:=I.loc
 ⟨m,hn,I.bk,Ux I.ok.bsz I.ok.above⟩
theorem Inv.lt(I:Inv X pins σ H s):X.env.locals<s.heap.objs.size:=let ⟨_,hn,_⟩:=I.loc;hn.lt
theorem Inv.sz(I:Inv X pins σ H s):X.s₀.heap.objs.size<=s.heap.objs.size:=Ux I.ok.above (U3 I.lt)
theorem Inv.nofs(I:Inv X pins σ H s){a:Addr}(h:s.heap.objs.size<=a):a∉X.fs:=λhb=>by
 obtain⟨_,o,ho,_⟩:=I.ok.funs.mem hb
 exact absurd (Uw (Uk ho) (Ux I.sz h)) (Ti _)
theorem Inv.cne(I:Inv X pins σ H s):∀x c,X.env.cells.lookup x=some c->c≠X.env.locals:=λx c e z=>by
 obtain⟨v,o,ho,hd⟩:=I.cell x c e
 obtain⟨m,⟨o',es,ep,ho',hd',_⟩,_⟩:=I.loc
 rw[z,ho']at ho;cases ho;rw[hd']at hd;cases hd
theorem Inv.funs(I:Inv X pins σ H s):s.heap.FunFrames X.base X.outer:=by
 have all:∀(l:List Env),(∀b∈frs l,b∈X.fs)->X.s₀.heap.FunFrames X.base l->s.heap.FunFrames X.base l:=by
  intro l
  induction l with
  |nil=>intro _ _;trivial
  |cons env r ih =>
   intro hs hl
   obtain⟨hk,⟨L,o,hf,hn,ho,hd⟩,hr⟩:=hl
   have hL:L∈X.fs:=hs L (by unfold frs;rw[Tu,hf];exact Ur)
   obtain⟨sl,e⟩:=I.base.slot L o ho (I.ok.frf L hL) hL λz=>I.ok.exfs L z hL
   exact⟨hk,⟨L,_,hf,hn,e,hd⟩,ih (λb hb=>hs b (by unfold frs;rw[Tu,hf];exact Ut _ hb)) hr⟩
 exact all X.outer (λ_ hb=>hb) I.ok.funs
theorem Inv.stack(I:Inv X pins σ H s):s.heap.FunFrames X.base X.stack:=by
 rcases I.ok.stk with e|⟨e,hf⟩
 ·rw[e];exact I.funs
 ·rw[e]
  obtain⟨m,hn,_⟩:=I.loc
  refine .cons (by rw[I.ok.kind];decide) hf hn ?_ I.funs
  exact Heap.get?_none_of_le (Ux I.ok.bsz I.ok.above)
theorem Inv.stkSub(I:Inv X pins σ H s):∀b∈frs X.stack,b∈X.env.locals::X.fs:=λb hb=>by
 rcases I.ok.stk with e|⟨e,hf⟩
 ·rw[e]at hb;exact Ut _ hb
 ·rw[e]at hb
  unfold frs at hb
  rw[Tu,hf]at hb
  exact hb
theorem Inv.stkFree(I:Inv X pins σ H s):∀b∈frs X.stack,H b=none:=λb hb=>by
 rcases Uu.mp (I.stkSub b hb) with e|hb
 ·rw[e];exact I.free
 ·obtain⟨_,o,ho,_⟩:=I.ok.funs.mem hb
  exact I.base.free b o ho (I.ok.frf b hb) λz=>I.ok.exfs b z hb
theorem Inv.step{g':Array GenState}{t':Nat}{d':Drawn}{ch:List Addr}(I:Inv X pins σ H s)(hch:∀b∈ch,(b∈X.ex\/X.s₀.heap.objs.size<=b)/\b≠X.env.locals/\(∀x c,X.env.cells.lookup x=some c->c≠b)/\∀p∈X.pn++pins,p.1≠b)(keep:∀b o,b≠X.env.locals->b∉X.fs->b∉ch->s.heap.get? b=some o->H b=none->h'.get? b=some o)(slot:∀b o,b≠X.env.locals->b∈X.fs->b∉ch->s.heap.get? b=some o->H b=none->∃sl,h'.get? b=some {o with slots:=sl})(free:∀b o,b∉ch->s.heap.get? b=some o->H b=none->H' b=none)(there:∀b o,b∉ch->s.heap.get? b=some o->∃o',h'.get? b=some o')(tups:∀b xs,H b=some (.tup xs)->H' b=some (.tup xs))(frzs:∀b o u,H b=some (.frz o u)->H' b=some (.frz o u))(tbls:∀b ps,H b=some (.tbl ps)->∃more,H' b=some (.tbl (ps++more)))(ns:∀m,s.heap.Ns X.env.locals m->h'.Ns X.env.locals m)(hok:HOk X.prog X.w H' h')(hg:AllBare g'):
  Inv X pins σ H' {s with heap:=h',gens:=g',drawn:=d',toks:=t'}:=by
 have neL:∀b o,X.s₀.heap.get? b=some o->b≠X.env.locals:=λb o e=>UE (Uw (Uk e) I.ok.above)
 have neC:∀b o,X.s₀.heap.get? b=some o->b∉X.ex->b∉ch:=λb o e hx hb=>by
  rcases(hch b hb).1 with z|z
  ·exact hx z
  ·exact absurd (Uw (Uk e) z) (Ti _)
 have cellK:∀x c,X.env.cells.lookup x=some c->∀v,s.heap.IsCell c v->h'.IsCell c v:=λx c e v ⟨o,ho,hd⟩=>by
  have nch:c∉ch:=λz=>(hch c z).2.2.1 x c e rfl
  by_cases hc:c∈X.fs
  ·obtain⟨sl,q⟩:=slot c o (I.cne x c e) hc nch ho (I.freeC x c e)
   exact⟨_,q,hd⟩
  ·exact⟨o,keep c o (I.cne x c e) hc nch ho (I.freeC x c e),hd⟩
 refine⟨I.ok,I.os,hg,⟨λb o e n hb hx=>?_,λb o e n hb hx=>?_,λb o e n hx=>?_,λb o e hx=>?_,λb xs e=>tups b xs (I.base.tups b xs e),λb o xs e=>frzs b o xs (I.base.frzs b o xs e),λb ps e=>?_⟩,?_,λx c e=>?_,?_,λx c e=>?_,λp hp=>?_,hok,I.len⟩
 ·exact keep b o (neL b o e) hb (neC b o e hx) (I.base.keep b o e n hb hx) (I.base.free b o e n hx)
 ·obtain⟨sl,e1⟩:=I.base.slot b o e n hb hx
  obtain⟨sl',e2⟩:=slot b _ (neL b o e) hb (neC b o e hx) e1 (I.base.free b o e n hx)
  exact⟨sl',e2⟩
 ·obtain⟨o',e1⟩:=I.base.there b o e hx
  exact free b o' (neC b o e hx) e1 (I.base.free b o e n hx)
 ·obtain⟨o',e1⟩:=I.base.there b o e hx
  exact there b o' (neC b o e hx) e1
 ·obtain⟨m1,e1⟩:=I.base.tbls b ps e
  obtain⟨m2,e2⟩:=tbls b _ e1
  exact⟨m1++m2,by rw[e2,RJ]⟩
 ·obtain⟨m,hn,hl⟩:=I.loc
  refine⟨m,ns m hn,λi x v e1 e2 e3=>?_⟩
  obtain⟨u,r,l⟩:=hl i x v e1 e2 e3
  refine⟨u,r,?_⟩
  rcases l with l|⟨k,c,e,z⟩
  ·exact .inl l
  ·exact .inr ⟨k,c,e,cellK x c e _ z⟩
 ·obtain⟨v,z⟩:=I.cell x c e
  exact⟨v,cellK x c e v z⟩
 ·obtain⟨m,⟨o,_,_,ho,_⟩,_⟩:=I.loc
  exact free _ o (λz=>(hch _ z).2.1 rfl) ho I.free
 ·obtain⟨v,o,ho,hd⟩:=I.cell x c e
  exact free c o (λz=>(hch c z).2.2.1 x c e rfl) ho (I.freeC x c e)
 ·obtain⟨e,n,ne,nf,d⟩:=I.pin p hp
  have nch:p.1∉ch:=λz=>(hch p.1 z).2.2.2 p hp rfl
  exact⟨keep p.1 p.2 ne nf nch e n,free p.1 p.2 nch e n,ne,nf,d⟩
theorem Inv.un{t':Nat}(I:Inv X pins σ H s)(u:Un X.fs [] H H' s.heap h')(hok:HOk X.prog X.w H' h'):Inv X pins σ H' {s with heap:=h',toks:=t'}:=by
 obtain⟨m,⟨o,es,ep,ho,r⟩,_⟩:=id I.loc
 obtain⟨sl,hL⟩:=u.any ho I.free (by simp)
 exact I.step (g':=s.gens) (d':=s.drawn) (ch:=[]) (λ_ z=>nomatch z) (λb o _ hb _ e n=>u.keep b o e n hb (by simp)) (λb o _ hb _ e n=>u.slot b o e n hb (by simp)) (λb o _ e n=>u.free b o e n (by simp)) (λb o _ e=>u.there b o e (by simp)) u.tups u.frzs u.tbls (λm' hm=>by
  obtain⟨o',es',ep',ho',r'⟩:=hm
  rw[ho]at ho';cases ho'
  exact⟨_,es',ep',hL,r'⟩) hok I.bare
theorem Inv.call{g':Array GenState}{t':Nat}{d':Drawn}{ch:List Addr}(I:Inv X pins σ H s)(u:Un (frs X.stack) ch H H' s.heap h')(hok:HOk X.prog X.w H' h')(hg:AllBare g')(hch:∀b∈ch,(b∈X.ex\/X.s₀.heap.objs.size<=b)/\b≠X.env.locals/\(∀x c,X.env.cells.lookup x=some c->c≠b)/\∀p∈X.pn++pins,p.1≠b):
  Inv X pins σ H' {s with heap:=h',gens:=g',drawn:=d',toks:=t'}:=by
 obtain⟨m,⟨o,es,ep,ho,r⟩,_⟩:=id I.loc
 obtain⟨sl,hL⟩:=u.any ho I.free λz=>(hch _ z).2.1 rfl
 exact I.step (ch:=ch) hch (λb o hL hb hc e n=>u.keep b o e n (λz=>(Uu.mp (I.stkSub b z)).elim hL hb) hc) (λb o _ _ hc e n=>u.any e n hc) (λb o hc e n=>u.free b o e n hc) (λb o hc e=>u.there b o e hc) u.tups u.frzs u.tbls (λm' hm=>by
  obtain⟨o',es',ep',ho',r'⟩:=hm
  rw[ho]at ho';cases ho'
  exact⟨_,es',ep',hL,r'⟩) hok hg
theorem Inv.turned{t':Nat}{it:Addr}(I:Inv X pins σ H s)(k:∀b o,b≠it->s.heap.get? b=some o->h'.get? b=some o)(hn:H it=none)(hL:it≠X.env.locals)(h1:it∈X.ex\/X.s₀.heap.objs.size<=it)(h2:∀x c,X.env.cells.lookup x=some c->c≠it)(h3:∀p∈X.pn++pins,p.1≠it):Inv X pins σ H {s with heap:=h',toks:=t'}:=by
 have nit:∀b u,H b=some u->b≠it:=λb u e z=>by rw[z,hn]at e;cases e
 refine I.step (g':=s.gens) (d':=s.drawn) (ch:=[it]) (λb hb=>?_) (λb o _ _ hc e _=>k b o (λz=>hc (by simp[z])) e) (λb o _ _ hc e _=>⟨o.slots,k b o (λz=>hc (by simp[z])) e⟩) (λ_ _ _ _ n=>n)
  (λb o hc e=>⟨o,k b o (λz=>hc (by simp[z])) e⟩) (λ_ _ e=>e) (λ_ _ _ e=>e) (λb ps e=>⟨#[],by rw[e];simp⟩) (λm hm=>?_) (λb u e=>?_) I.bare
 ·have e:b=it:=by simpa using hb
  subst e
  exact⟨h1,hL,h2,h3⟩
 ·obtain⟨o,es,ep,ho,r⟩:=hm
  exact⟨o,es,ep,k _ o (Ne.symm hL) ho,r⟩
 ·refine(I.hok b u e).stay (λc v hc q=>k c v ?_ q) (λ_ q=>q) λ_ _ q=>q
  rcases hc with z|z
  ·rw[z];exact nit b u e
  ·exact nit c _ z
theorem Inv.tok(I:Inv X pins σ H s)(t:Nat):Inv X pins σ H {s with toks:=t}:=I.un (h':=s.heap) (t':=t) Un.refl I.hok
theorem Inv.kept{t':Nat}(I:Inv X pins σ H s)(k:∀b u,s.heap.get? b=some u->h'.get? b=some u):Inv X pins σ H {s with heap:=h',toks:=t'}:=I.un (Un.kept k) (I.hok.kept k)
theorem Inv.laid{a:Addr}{o:HO}{t':Nat}(I:Inv X pins σ H s)(k:∀b u,s.heap.get? b=some u->h'.get? b=some u)(hp:s.heap.objs.size<=a)(new:ObjOk X.prog X.w (upd H a o) h' a o):
  Inv X pins σ (upd H a o) {s with heap:=h',toks:=t'}:=I.un (Un.laid k hp (I.hok.fresh hp)) (I.hok.laid k hp new)
theorem Inv.write{x e:Addr}{o:HO}{t':Nat}(I:Inv X pins σ H s)(mu:Mut (H x))(he:e=x\/H e=some (.own x))(k:∀b u,b≠e->s.heap.get? b=some u->h'.get? b=some u)(heo:∃u,h'.get? e=some u)(new:ObjOk X.prog X.w (upd H x o) h' x o):Inv X pins σ (upd H x o) {s with heap:=h',toks:=t'}:=I.un (Un.write mu he k heo) (I.hok.write mu he k heo new)
theorem Inv.pins_of{pins':List (Addr×Obj)}(I:Inv X pins σ H s)(h:∀p∈pins',s.heap.get? p.1=some p.2/\H p.1=none/\p.1≠X.env.locals/\p.1∉X.fs/\∀v,p.2.data≠.cell v):Inv X pins' σ H s :=
 ⟨I.ok,I.os,I.bare,I.base,I.loc,I.cell,I.free,I.freeC,λp hp=>(Uz.mp hp).elim (λz=>I.pin p (UQ _ z)) (h p),I.hok,I.len⟩
theorem Qfu{N:List Str}(hN:N.Nodup){i j:Nat}{x:Str}(a:N[i]?=some x)(b:N[j]?=some x):i=j:=by
 obtain⟨h1,e1⟩:=Ue.mp a
 obtain⟨h2,e2⟩:=Ue.mp b
 exact(Wb hN).mp (e1.trans e2.symm)
theorem Qg4{M:Model}{A:Around}{E:Value->Shared->Prop}{i:Nat}{x:Str}{v:V}{u:Value}{Q:Unit->Shared->Prop}(I:Inv X pins σ H s)(hN:X.N.Nodup)(hi:X.N[i]?=some x)(hx:Loc X.env.scope x)(r:RelV v u)(h:∀s',Inv X pins (σ.set i (some v)) H s'->(∃a,Heap.SameBut a s.heap s'.heap/\(a=X.env.locals\/X.env.cells.lookup x=some a))->Q () s')(hf:X.fn x=true\/X.env.scope.names.lookup x=some .local:=by first|exact .inl rfl|exact .inr rfl|assumption):wpAny M A (storeName X.env x u) Q E s:=by
 obtain⟨m,hn,hl⟩:=id I.loc
 have hcls:(X.env.scope.kind == .class || (X.env.scope.kind == .module && X.env.locals != X.env.globals))=false:=by rw[I.ok.kind];rfl
 have hiσ:i<σ.length:=by rw[I.len];exact(Ue.mp hi).1
 have cne:=I.cne
 have tracked:∀{a:Addr}{h':Heap},(∃o,s.heap.get? a=some o/\H a=none)->Heap.SameBut a s.heap h'->HOk X.prog X.w H h':=λ{a h'} ha hs b ob e=>by
  obtain⟨_,_,hfree⟩:=ha
  refine(I.hok b ob e).stay (λc w' hc q=>(hs.2 c ?_).trans q) (λ_ q=>q) λ_ _ q=>q
  rintro rfl
  rcases hc with rfl|hc
  ·rw[hfree]at e;cases e
  ·rw[hfree]at hc;cases hc
 rcases hx with hk|hk
 ·refine wpAny_storeName_local hk hn (λh' hn' hs=>?_) hcls
  obtain⟨oL,_,_,hoL,_⟩:=id hn
  refine h _ ⟨I.ok,I.os,I.bare,⟨λb o e n hb hx=>?_,λb o e n hb hx=>?_,I.base.free,λb o e hx=>?_,I.base.tups,I.base.frzs,I.base.tbls⟩,⟨_,hn',λj y v' e1 e2 e3=>?_⟩,λy c e=>?_,I.free,I.freeC,λp hp=>?_,tracked ⟨oL,hoL,I.free⟩ hs,by simpa using I.len⟩ ⟨_,hs,.inl rfl⟩
  ·exact(hs.2 b (UE (Uw (Uk e) I.ok.above))).trans (I.base.keep b o e n hb hx)
  ·obtain⟨sl,e1⟩:=I.base.slot b o e n hb hx
   exact⟨sl,(hs.2 b (UE (Uw (Uk e) I.ok.above))).trans e1⟩
  ·obtain⟨o',e1⟩:=I.base.there b o e hx
   exact⟨o',(hs.2 b (UE (Uw (Uk e) I.ok.above))).trans e1⟩
  ·by_cases hj:j=i
   ·subst hj
    rw[hi]at e1;cases e1
    rw[UW hiσ]at e2
    cases e2
    exact⟨u,r,.inl ⟨hk,by simp⟩⟩
   ·rw[Ui (Ne.symm hj)]at e2
    obtain⟨u',r',q⟩:=hl j y v' e1 e2 e3
    refine⟨u',r',?_⟩
    rcases q with⟨k,e⟩|⟨k,c,e,z⟩
    ·refine .inl ⟨k,?_⟩
     have:y≠x:=λe=>hj (Qfu hN e1 (e ▸ hi))
     simp[this,e]
    ·exact .inr ⟨k,c,e,z.sameBut hs (cne y c e)⟩
  ·obtain⟨w',z⟩:=I.cell y c e
   exact⟨w',z.sameBut hs (cne y c e)⟩
  ·obtain⟨e,n,ne,nf,d⟩:=I.pin p hp
   exact⟨(hs.2 p.1 ne).trans e,n,ne,nf,d⟩
 ·have hfn:X.fn x=true:=by
   rcases hf with z|z
   ·exact z
   ·rw[z]at hk;cases hk
  obtain⟨c,hc⟩:=I.ok.has x (.inl hk)
  obtain⟨w',z⟩:=I.cell x c hc
  refine wpAny_storeName_cell I.ok.kind hk hc z (λh' hc' hs=>?_)
  obtain⟨oc,hoc,hocd⟩:=id z
  refine h {s with heap:=h'} ⟨I.ok,I.os,I.bare,⟨λb o e n hb hx=>?_,λb o e n hb hx=>?_,I.base.free,λb o e hx=>?_,I.base.tups,I.base.frzs,I.base.tbls⟩,⟨m,hn.sameBut hs (Ne.symm (cne x c hc)),λj y v' e1 e2 e3=>?_⟩,λy c' e=>?_,I.free,I.freeC,λp hp=>?_,tracked ⟨oc,hoc,I.freeC x c hc⟩ hs,by simpa using I.len⟩ ⟨c,hs,.inr hc⟩
  ·exact(hs.2 b (UE (Uw (Uk e) (I.ok.cab x c hfn hc)))).trans (I.base.keep b o e n hb hx)
  ·obtain⟨sl,e1⟩:=I.base.slot b o e n hb hx
   exact⟨sl,(hs.2 b (UE (Uw (Uk e) (I.ok.cab x c hfn hc)))).trans e1⟩
  ·obtain⟨o',e1⟩:=I.base.there b o e hx
   exact⟨o',(hs.2 b (UE (Uw (Uk e) (I.ok.cab x c hfn hc)))).trans e1⟩
  ·by_cases hj:j=i
   ·subst hj
    rw[hi]at e1;cases e1
    rw[UW hiσ]at e2
    cases e2
    exact⟨u,r,.inr ⟨.inl hk,c,hc,hc'⟩⟩
   ·rw[Ui (Ne.symm hj)]at e2
    obtain⟨u',r',q⟩:=hl j y v' e1 e2 e3
    refine⟨u',r',?_⟩
    rcases q with q|⟨k,c',e,z'⟩
    ·exact .inl q
    ·refine .inr ⟨k,c',e,z'.sameBut hs ?_⟩
     rintro rfl
     exact hj (Qfu hN e1 (I.ok.inj _ _ _ e hc ▸ hi))
  ·by_cases hcc:c'=c
   ·subst hcc;exact⟨_,hc'⟩
   ·obtain⟨w2,z2⟩:=I.cell y c' e
    exact⟨w2,z2.sameBut hs hcc⟩
  ·obtain⟨e,n,ne,nf,d⟩:=I.pin p hp
   refine⟨(hs.2 p.1 ?_).trans e,n,ne,nf,d⟩
   intro q
   rw[q,hoc]at e
   have q':oc=p.2:=Option.some.inj e
   exact d w' (by rw[<-q'];exact hocd)
theorem QaA{M:Model}{A:Around}{E:Value->Shared->Prop}{i:Nat}{x:Str}{v:V}{u:Value}{Q:Unit->Shared->Prop}(I:Inv X pins σ H s)(hN:X.N.Nodup)(hi:X.N[i]?=some x)(hx:Loc X.env.scope x)(r:RelV v u)(h:∀s',Inv X pins (σ.set i (some v)) H s'->Q () s')(hf:X.fn x=true\/X.env.scope.names.lookup x=some .local:=by first|exact .inl rfl|exact .inr rfl|assumption):wpAny M A (storeName X.env x u) Q E s :=
 Qg4 I hN hi hx r (λs' I' _=>h s' I') hf
theorem Inv.call'{s':Shared}{ch:List Addr}(I:Inv X pins σ H s)(ho:s'.os=s.os)(u:Un (frs X.stack) ch H H' s.heap s'.heap)(hok:HOk X.prog X.w H' s'.heap)(hg:AllBare s'.gens)(hch:∀b∈ch,(b∈X.ex\/X.s₀.heap.objs.size<=b)/\b≠X.env.locals/\(∀x c,X.env.cells.lookup x=some c->c≠b)/\∀p∈X.pn++pins,p.1≠b):Inv X pins σ H' s':=by
 obtain⟨h',g',d',t',o'⟩:=s'
 have e:o'=s.os:=ho
 subst e
 exact I.call (g':=g') (t':=t') (d':=d') u hok hg hch
end
noncomputable abbrev XK:=Value->Option Addr->Hp->Prop
noncomputable abbrev St:=List (Option V)
noncomputable abbrev VK:=V->Hp->Prop
noncomputable abbrev TE:=St->Hp->VK->Prop
noncomputable abbrev TT:=St->Hp->(Bool->Hp->Prop)->Prop
noncomputable abbrev TA:=St->Hp->(List V->Hp->Prop)->Prop
structure Ends where
 nx:St->Hp->Prop
 rt:VK
 bk:St->Hp->Prop:=λ_ _=>False
 ct:St->Hp->Prop:=λ_ _=>False
noncomputable abbrev TS:=Ends->St->Hp->Prop
def EP(X:Cx)(pins:List (Addr×Obj))(σ:St)(Q:VK)(u:Value)(s':Shared):Prop:=∃v H',Inv X pins σ H' s'/\RelV v u/\Q v H'
def TP(X:Cx)(pins:List (Addr×Obj))(σ:St)(Q:Bool->Hp->Prop)(b:Bool)(s':Shared):Prop:=∃H',Inv X pins σ H' s'/\Q b H'
def AP(X:Cx)(pins:List (Addr×Obj))(σ:St)(Q:List V->Hp->Prop)(us:List Value)(s':Shared):Prop:=∃vs H',Inv X pins σ H' s'/\Vals vs us/\Q vs H'
noncomputable def SP(X:Cx)(pins:List (Addr×Obj))(D:Ends)(f:Flow)(s':Shared):Prop :=
 match f with
 |.next=>∃σ' H',Inv X pins σ' H' s'/\D.nx σ' H'
 |.brk=>∃σ' H',Inv X pins σ' H' s'/\D.bk σ' H'
 |.cont=>∃σ' H',Inv X pins σ' H' s'/\D.ct σ' H'
 |.ret u=>∃v σ' H',Inv X pins σ' H' s'/\RelV v u/\D.rt v H'
noncomputable def PE(X:Cx)(e:Expr)(t:TE):Prop :=
 ∀(pins:List (Addr×Obj))(s:Shared)(σ:St)(H:Hp)(Q:VK),Inv X pins σ H s->t σ H Q->wpAny (model X.prog X.w) X.A (eval e X.env) (EP X pins σ Q) X.xe s
noncomputable def PT(X:Cx)(e:Expr)(t:TT):Prop :=
 ∀(pins:List (Addr×Obj))(s:Shared)(σ:St)(H:Hp)(Q:Bool->Hp->Prop),Inv X pins σ H s->t σ H Q->wpAny (model X.prog X.w) X.A (isTrue e X.env (eval e X.env)) (TP X pins σ Q) X.xe s
noncomputable def PW(X:Cx)(e:Expr)(t:TT):Prop :=
 ∀(whole:Sem Value)(pins:List (Addr×Obj))(s:Shared)(σ:St)(H:Hp)(Q:Bool->Hp->Prop),Inv X pins σ H s->t σ H Q->wpAny (model X.prog X.w) X.A (isTrue e X.env whole) (TP X pins σ Q) X.xe s
theorem PW.pt{X:Cx}{e:Expr}{t:TT}(h:PW X e t):PT X e t:=h _
noncomputable def PA(X:Cx)(es:List Expr)(t:TA):Prop :=
 ∀(pos:Pos)(pins:List (Addr×Obj))(s:Shared)(σ:St)(H:Hp)(Q:List V->Hp->Prop),Inv X pins σ H s->t σ H Q->wpAny (model X.prog X.w) X.A (spliced (backTo pos (starEach es X.env))) (AP X pins σ Q) X.xe s
noncomputable def PS(X:Cx)(st:Stmt)(t:TS):Prop :=
 ∀(pins:List (Addr×Obj))(s:Shared)(σ:St)(H:Hp)(D:Ends),Inv X pins σ H s->t D σ H->wpAny (model X.prog X.w) X.A (exec st X.env) (SP X pins D) X.xe s
noncomputable def PSs(X:Cx)(st:List Stmt)(t:TS):Prop :=
 ∀(pins:List (Addr×Obj))(s:Shared)(σ:St)(H:Hp)(D:Ends),Inv X pins σ H s->t D σ H->wpAny (model X.prog X.w) X.A (execs st X.env) (SP X pins D) X.xe s
theorem thn{α:Type}{t:Sem α}{Q Q':α->Shared->Prop}{M:Model}{A:Around}{E:Value->Shared->Prop}{s:Shared}(h:wpAny M A t Q E s)(hQ:∀a s,Q a s->Q' a s):wpAny M A t Q' E s:=Tc h hQ λ_ _ x=>x
end
section
section
variable{X:Cx}
noncomputable def tVar(i:Nat):TE:=λσ H Q=>∃v,σ[i]?=some (some v)/\Q v H
noncomputable def tC(v:V):TE:=λ_ H Q=>Q v H
theorem Qmc{i:Nat}{x:Str}{pos:Pos}(hN:X.N[i]?=some x)(hv:Vis X.env.scope x)(hd:(x == ("__debug__" : Str))=false:=by decide)(hcd:(x == ("__classdict__" : Str))=false:=by decide):PE X (.Name x pos) (tVar i):=by
 intro pins s σ H Q I h
 obtain⟨v,e,h⟩:=h
 obtain⟨m,hn,hl⟩:=I.loc
 obtain⟨u,r,l⟩:=hl i x v hN e hv
 have fin:EP X pins σ Q u s:=⟨v,H,I,r,h⟩
 rcases l with⟨hk,hm⟩|⟨hk,c,hc,hcell⟩
 ·exact wpAny_Name (wpAny_loadName_local I.ok.kind hk hn hm fin) hd
 ·rcases hk with hk|hk
  ·exact wpAny_Name (wpAny_loadName_cell I.ok.kind hk hc hcell fin) hd
  ·exact wpAny_Name (wpAny_loadName_free I.ok.kind hk hc hcell fin hcd) hd
theorem Qmd{i j pos}:PE X (.Constant (.int i) j pos) (tC (.int i)):=λ_ _ _ H _ I h=>wpAny_Constant_int ⟨.int i,H,I.tok _,⟨_,rfl⟩,h⟩
theorem QnG{b j pos}:PE X (.Constant (.bool b) j pos) (tC (.bl b)):=λ_ _ _ H _ I h=>Constant_bool ⟨.bl b,H,I,rfl,h⟩
theorem Qme{j pos}:PE X (.Constant .none j pos) (tC .non):=λ_ _ _ H _ I h=>Constant_none ⟨.non,H,I,rfl,h⟩
theorem Qmf{x j pos}:PE X (.Constant (.str x) j pos) (tC (.str x)):=λ_ _ _ H _ I h=>Calls.Constant_str ⟨.str x,H,I.tok _,⟨_,rfl⟩,h⟩
def Gl(X:Cx)(x:Str):Prop:=X.env.kindOf x=some .globalImplicit
theorem QeH{E:Value->Shared->Prop}{pins:List (Addr×Obj)}{s:Shared}{σ:St}{H:Hp}{x:Str}{u:Value}{pos:Pos}{Q:Value->Shared->Prop}(I:Inv X pins σ H s)(hg:Gl X x)(hm:X.mg x=some u)(h:Q u s)(hd:(x == ("__debug__" : Str))=false:=by decide):wpAny (model X.prog X.w) X.A (eval (.Name x pos) X.env) Q E s :=
 RI I.ok.kind hg (Calls.loadGlobal_global (by rw[I.ok.glob];exact I.mod.glob.keeps I.bk) hm h) hd
theorem Jw{E:Value->Shared->Prop}{pins:List (Addr×Obj)}{s:Shared}{σ:St}{H:Hp}{x:Str}{u:Value}{pos:Pos}{Q:Value->Shared->Prop}(I:Inv X pins σ H s)(hg:Gl X x)(hm:X.mg x=none)(hv:bootBuiltins x=some u)(h:Q u s)(hn:x ≠ "__name__":=by decide)(hd:(x == ("__debug__" : Str))=false:=by decide):wpAny (model X.prog X.w) X.A (eval (.Name x pos) X.env) Q E s:=by
 obtain⟨mb,h1,h2⟩:=I.mod.blt
 exact RI I.ok.kind hg (Calls.loadGlobal_builtin (by rw[I.ok.glob];exact I.mod.glob.keeps I.bk) hm (by rw[I.ok.blt];exact h1.keeps I.bk) ((h2 x hn).trans hv) h) hd
theorem Qg5{x:Str}{v:V}{u:Value}{pos:Pos}(hg:Gl X x)(hm:X.mg x=some u)(r:RelV v u)(hd:(x == ("__debug__" : Str))=false:=by decide):PE X (.Name x pos) (tC v) :=
 λ_ _ _ H _ I h=>QeH I hg hm ⟨v,H,I,r,h⟩ hd
theorem QkQ{x:Str}{v:V}{u:Value}{pos:Pos}(hg:Gl X x)(hm:X.mg x=none)(hv:bootBuiltins x=some u)(r:RelV v u)(hn:x ≠ "__name__":=by decide)(hd:(x == ("__debug__" : Str))=false:=by decide):PE X (.Name x pos) (tC v) :=
 λ_ _ _ H _ I h=>Jw I hg hm hv ⟨v,H,I,r,h⟩ hn hd
variable{a b:Expr}{ta tb:TE}{pos:Pos}
noncomputable def tB(t:TE):TT:=λσ H Q=>t σ H λx H1=>∃c,x=.bl c/\Q c H1
theorem Qmg{e:Expr}{t:TE}(h:PE X e t)(he:∀whole,isTrue e X.env whole=(do let v <-whole;standAt e.pos;holding [v] (truthy v)):=by intro _;rfl):PT X e (tB t):=by
 intro pins s σ H Q I hw
 refine isTrue_plain (thn (h pins s σ H _ I hw) λv s1 ⟨x,H1,I1,r1,q1⟩=>?_) (he _)
 obtain⟨d,rfl,q⟩:=q1
 cases r1
 exact U9 ⟨H1,I1,q⟩
variable{tA tB':TT}{rest:List Expr}
noncomputable def tAnd(t u:TT):TT:=λσ H Q=>t σ H λc H1=>if c=true then u σ H1 Q else Q false H1
noncomputable def tOr(t u:TT):TT:=λσ H Q=>t σ H λc H1=>if c=true then Q true H1 else u σ H1 Q
noncomputable def tNot(t:TT):TT:=λσ H Q=>t σ H λc H1=>Q (!c) H1
theorem QkR(ha:PT X a tA):PW X (.BoolOp .And [a] pos) tA:=by
 intro wh pins s σ H Q I h
 refine isTrue_and (thn (ha pins s σ H Q I h) λc s1 e=>?_)
 cases c with
 |true=>exact isTrue_and_nil e
 |false=>exact e
theorem Qmh(ha:PT X a tA):PW X (.BoolOp .Or [a] pos) tA:=by
 intro wh pins s σ H Q I h
 refine isTrue_or (thn (ha pins s σ H Q I h) λc s1 e=>?_)
 cases c with
 |false=>exact isTrue_or_nil e
 |true=>exact e
theorem Qmi(ha:PT X a tA)(hb:PW X (.BoolOp .And (b::rest) pos) tB'):PW X (.BoolOp .And (a::b::rest) pos) (tAnd tA tB'):=by
 intro wh pins s σ H Q I h
 refine isTrue_and (thn (ha pins s σ H _ I h) λc s1 ⟨H1,I1,q1⟩=>?_)
 cases c with
 |true=>exact hb wh pins s1 σ H1 Q I1 q1
 |false=>exact⟨H1,I1,q1⟩
theorem QnH(ha:PT X a tA)(hb:PW X (.BoolOp .Or (b::rest) pos) tB'):PW X (.BoolOp .Or (a::b::rest) pos) (tOr tA tB'):=by
 intro wh pins s σ H Q I h
 refine isTrue_or (thn (ha pins s σ H _ I h) λc s1 ⟨H1,I1,q1⟩=>?_)
 cases c with
 |true=>exact⟨H1,I1,q1⟩
 |false=>exact hb wh pins s1 σ H1 Q I1 q1
theorem Qmj(ha:PT X a tA):PT X (.UnaryOp .Not a pos) (tNot tA):=by
 intro pins s σ H Q I h
 exact isTrue_not (ha pins s σ H (λc H1=>Q (!c) H1) I h)
noncomputable def QnI(ta tb:TE):TE:=λσ H Q=>ta σ H λx H1=>∃c,x=.bl c/\if c=true then tb σ H1 Q else Q (.bl false) H1
noncomputable def QnJ(ta:TE):TE:=λσ H Q=>ta σ H λx H1=>∃c,x=.bl c/\Q (.bl (!c)) H1
theorem Qmk{op}{t:TE}(h:PE X a t):PE X (.BoolOp op [a] pos) t:=λpins s σ H Q I hw=>BoolOp_one (h pins s σ H Q I hw)
theorem Qml(ha:PE X a ta)(hb:PE X (.BoolOp .And (b::rest) pos) tb):PE X (.BoolOp .And (a::b::rest) pos) (QnI ta tb):=by
 intro pins s σ H Q I h
 refine BoolOp_and (thn (ha pins s σ H _ I h) λv s1 ⟨x,H1,I1,r1,q1⟩=>?_)
 obtain⟨c,rfl,q1⟩:=q1
 cases r1
 refine U9 ?_
 cases c with
 |true=>exact hb pins s1 σ H1 Q I1 q1
 |false=>exact⟨.bl false,H1,I1,rfl,q1⟩
theorem Qmm(ha:PE X a ta):PE X (.UnaryOp .Not a pos) (QnJ ta):=by
 intro pins s σ H Q I h
 refine UnaryOp_ (thn (ha pins s σ H _ I h) λv s1 ⟨x,H1,I1,r1,q1⟩=>?_)
 obtain⟨c,rfl,q1⟩:=q1
 cases r1
 exact not_of (U9 ⟨.bl (!c),H1,I1,rfl,q1⟩)
noncomputable def tIf(t:TT)(ta tb:TE):TE:=λσ H Q=>t σ H λc H1=>if c=true then ta σ H1 Q else tb σ H1 Q
theorem QiV{c:Expr}(hc:PT X c tA)(ha:PE X a ta)(hb:PE X b tb):PE X (.IfExp c a b pos) (tIf tA ta tb):=by
 intro pins s σ H Q I h
 refine wpAny_IfExp (thn (hc pins s σ H _ I h) λd s1 ⟨H1,I1,q1⟩=>?_)
 cases d with
 |true=>exact ha pins s1 σ H1 Q I1 q1
 |false=>exact hb pins s1 σ H1 Q I1 q1
end
end
section
noncomputable def SqL(K:Frag)(H:Hp)(a:Addr)(xs:List V):Prop :=
 Rd H a (.lst xs) \/
  ∃(o:Obj)(its:Array Value)(n:Nat),K.lookup a=some o/\o.cls=.type "list" /\ o.dict=none/\o.data=.seq its n/\its.size<=sizeLine/\Vals xs its.toList
noncomputable def SqT(K:Frag)(H:Hp)(a:Addr)(xs:List V):Prop :=
 Rd H a (.tup xs) \/
  ∃(o:Obj)(its:Array Value)(n:Nat),K.lookup a=some o/\o.cls=.type "tuple" /\ o.data=.seq its n/\its.size<=sizeLine/\Vals xs its.toList
noncomputable def absV:Value->Option V
 |.none=>some .non
 |.bool b=>some (.bl b)
 |.int i _=>some (.int i)
 |.str x _=>some (.str x)
 |.bytes b _=>some (.byt b)
 |.float b _=>some (.flt b)
 |.ref a=>some (.ref a)
 |.type n=>some (.ty n)
 |_=>none
theorem RelV.abs{x:V}{u:Value}(r:RelV x u):absV u=some x:=by
 cases x with
 |non=>cases r;rfl
 |bl _=>cases r;rfl
 |int _=>obtain⟨t,rfl⟩:=r;rfl
 |str _=>obtain⟨t,rfl⟩:=r;rfl
 |byt _=>obtain⟨t,rfl⟩:=r;rfl
 |flt _=>obtain⟨t,rfl⟩:=r;rfl
 |ref _=>cases r;rfl
 |ty _=>cases r;rfl
theorem RelV.inj{x y:V}{u:Value}(r:RelV x u)(q:RelV y u):x=y:=Option.some.inj (r.abs.symm.trans q.abs)
theorem Vals.inj:∀{xs ys:List V}{us:List Value},Vals xs us->Vals ys us->xs=ys
 |_,_,_,.nil,.nil=>rfl
 |_,_,_,.cons r t,.cons r' t'=>by rw[r.inj r',Vals.inj t t']
section
variable{X:Cx}{pins:List (Addr×Obj)}{σ:St}{H:Hp}{s:Shared}{a:Addr}{xs ys:List V}
theorem SqL.of{K:Frag}(h:H a=some (.lst xs)):SqL K H a xs:=.inl (.inl h)
theorem SqT.of{K:Frag}(h:H a=some (.tup xs)):SqT K H a xs:=.inl (.inl h)
theorem Inv.list(I:Inv X pins σ H s)(h:SqL X.K H a xs):∃its:List Value,Vals xs its/\PlainL s.heap a its.toArray/\xs.length<=sizeLine:=by
 rcases h with h|⟨o,its,n,hk,hc,hd,hs,hz,r⟩
 ·obtain⟨z,its,n,r,e⟩:=h.ok I.hok
  exact⟨its,r,⟨_,n,e,rfl,rfl,rfl⟩,z⟩
 ·refine⟨its.toList,r,⟨o,n,I.kIn a o hk,hc,hd,by simpa using hs⟩,?_⟩
  have e:=r.length
  simp only[UY]at e
  omega
theorem Inv.tuple(I:Inv X pins σ H s)(h:SqT X.K H a xs):∃its:List Value,Vals xs its/\IsTup s.heap a its.toArray/\xs.length<=sizeLine:=by
 rcases h with h|⟨o,its,n,hk,hc,hs,hz,r⟩
 ·obtain⟨z,its,r,p⟩:=h.ok I.hok
  exact⟨its,r,p,z⟩
 ·refine⟨its.toList,r,⟨o,I.kIn a o hk,hc,n,by simpa using hs⟩,?_⟩
  have e:=r.length
  simp only[UY]at e
  omega
theorem Inv.list_inj(I:Inv X pins σ H s)(h:SqL X.K H a xs)(h':SqL X.K H a ys):xs=ys:=by
 obtain⟨its,r,⟨o,n,e,_,_,d⟩,_⟩:=I.list h
 obtain⟨its',r',⟨o',n',e',_,_,d'⟩,_⟩:=I.list h'
 rw[e]at e';cases e'
 rw[d]at d'
 injection d' with d1 _
 have:its=its':=by simpa using T2 Array.toList d1
 subst this
 exact r.inj r'
theorem Inv.tuple_inj(I:Inv X pins σ H s)(h:SqT X.K H a xs)(h':SqT X.K H a ys):xs=ys:=by
 obtain⟨its,r,⟨o,e,_,n,d⟩,_⟩:=I.tuple h
 obtain⟨its',r',⟨o',e',_,n',d'⟩,_⟩:=I.tuple h'
 rw[e]at e';cases e'
 rw[d]at d'
 injection d' with d1 _
 have:its=its':=by simpa using T2 Array.toList d1
 subst this
 exact r.inj r'
end
noncomputable abbrev Cx.wish(X:Cx)(E:Value->Shared->Prop):Cx:={X with xe:=E}
noncomputable abbrev Cx.nox(X:Cx):Cx:=X.wish λ_ _=>False
theorem Cx.Ok.wish{X:Cx}(ok:X.Ok)(E:Value->Shared->Prop):(X.wish E).Ok :=
 ⟨ok.mod,ok.kind,ok.glob,ok.blt,ok.above,ok.inj,ok.has,ok.cab,ok.hd,ok.frames,ok.stk,ok.exf,ok.bs,ok.bsz,ok.noex,ok.exfs,ok.funs,ok.frf⟩
theorem Cx.Ok.unwish{X:Cx}{E:Value->Shared->Prop}(ok:(X.wish E).Ok):X.Ok :=
 ⟨ok.mod,ok.kind,ok.glob,ok.blt,ok.above,ok.inj,ok.has,ok.cab,ok.hd,ok.frames,ok.stk,ok.exf,ok.bs,ok.bsz,ok.noex,ok.exfs,ok.funs,ok.frf⟩
section
variable{X:Cx}{pins:List (Addr×Obj)}{σ:St}{H:Hp}{s:Shared}{E:Value->Shared->Prop}
theorem Inv.wish(I:Inv X pins σ H s)(E:Value->Shared->Prop):Inv (X.wish E) pins σ H s:=⟨I.ok.wish E,I.os,I.bare,I.base,I.loc,I.cell,I.free,I.freeC,I.pin,I.hok,I.len⟩
theorem Inv.unwish(I:Inv (X.wish E) pins σ H s):Inv X pins σ H s:=⟨I.ok.unwish,I.os,I.bare,I.base,I.loc,I.cell,I.free,I.freeC,I.pin,I.hok,I.len⟩
theorem SP.unwish{D:Ends}{f:Flow}{s':Shared}(h:SP (X.wish E) pins D f s'):SP X pins D f s':=by
 cases f with
 |next=>obtain⟨σ',H',I,q⟩:=h;exact⟨σ',H',I.unwish,q⟩
 |brk=>obtain⟨σ',H',I,q⟩:=h;exact⟨σ',H',I.unwish,q⟩
 |cont=>obtain⟨σ',H',I,q⟩:=h;exact⟨σ',H',I.unwish,q⟩
 |ret u=>obtain⟨v,σ',H',I,r,q⟩:=h;exact⟨v,σ',H',I.unwish,r,q⟩
theorem PE.nox{e:Expr}{t:TE}(h:PE X.nox e t):PE X e t:=λpins s σ H Q I hw =>
 Tc (h pins s σ H Q (I.wish _) hw) (λ_ _ ⟨v,H',I',r,q⟩=>⟨v,H',I'.unwish,r,q⟩) λ_ _ z=>False.elim z
theorem PT.nox{e:Expr}{t:TT}(h:PT X.nox e t):PT X e t:=λpins s σ H Q I hw =>
 Tc (h pins s σ H Q (I.wish _) hw) (λ_ _ ⟨H',I',q⟩=>⟨H',I'.unwish,q⟩) λ_ _ z=>False.elim z
theorem PSs.nox{st:List Stmt}{t:TS}(h:PSs X.nox st t):PSs X st t:=λpins s σ H D I hw =>
 Tc (h pins s σ H D (I.wish _) hw) (λ_ _ q=>q.unwish) λ_ _ z=>False.elim z
end
section
variable{X:Cx}{st:Stmt}{rest:List Stmt}{t u:TS}{e:Expr}{te:TE}{pos:Pos}
noncomputable def QnK:TS:=λD σ H=>D.nx σ H
noncomputable def tSeq(t u:TS):TS:=λD σ H=>t {D with nx:=u D} σ H
theorem QkS:PSs X [] QnK:=λ_ _ σ H _ I h=>Ry ⟨σ,H,I,h⟩
theorem QiW(h1:PS X st t)(h2:PSs X rest u):PSs X (st::rest) (tSeq t u):=by
 intro pins s σ H D I h
 refine wpAny_execs_cons (thn (h1 pins s σ H {D with nx:=u D} I h) λf s1 q=>?_)
 cases f with
 |next =>
  obtain⟨σ',H',I',q⟩:=q
  exact h2 pins s1 σ' H' D I' q
 |ret v=>exact q
 |brk=>exact q
 |cont=>exact q
theorem QkT(h1:PS X st t):PSs X [st] t:=by
 intro pins s σ H D I h
 refine wpAny_execs_cons (thn (h1 pins s σ H D I h) λf s1 q=>?_)
 cases f with
 |next=>exact Ry q
 |ret v=>exact q
 |brk=>exact q
 |cont=>exact q
theorem Inv.quiet{pins:List (Addr×Obj)}{σ:St}{H:Hp}{s:Shared}(I:Inv X pins σ H s):interactive X.env=false:=by simp[interactive,I.ok.kind]
noncomputable def QnL(te:TE):TS:=λD σ H=>te σ H λ_ H1=>D.nx σ H1
theorem QkU(he:PE X e te)(hs:swapsWith e none pos.line X.env=pure false:=by rfl):PS X (.Expr e pos) (QnL te):=by
 intro pins s σ H D I h
 exact wpAny_Expr_any (thn (he pins s σ H _ I h) λv s1 ⟨x,H1,I1,r1,q1⟩=>⟨σ,H1,I1,q1⟩) I.quiet hs
noncomputable def tRet(te:TE):TS:=λD σ H=>te σ H D.rt
theorem Qmn(he:PE X e te):PS X (.Return (some e) pos) (tRet te):=by
 intro pins s σ H D I h
 exact wpAny_Return_some (thn (he pins s σ H _ I h) λv s1 ⟨x,H1,I1,r1,q1⟩=>⟨x,σ,H1,I1,r1,q1⟩)
noncomputable def tIfS(c:TT)(t u:TS):TS:=λD σ H=>c σ H λb H1=>if b=true then t D σ H1 else u D σ H1
theorem QnM{c:Expr}{a b:List Stmt}{tc:TT}(hc:PT X c tc)(ha:PSs X a t)(hb:PSs X b u):PS X (.If c a b pos) (tIfS tc t u):=by
 intro pins s σ H D I h
 refine wpAny_If (thn (hc pins s σ H _ I h) λd s1 ⟨H1,I1,q1⟩=>?_)
 cases d with
 |true=>exact ha pins s1 σ H1 D I1 q1
 |false=>exact hb pins s1 σ H1 D I1 q1
noncomputable def Qmo:TS:=λ_ _ _=>False
theorem QiX:PS X st Qmo:=λ_ _ _ _ _ _ h=>h.elim
end
noncomputable abbrev TG:=V->St->Hp->(St->Hp->Prop)->Prop
noncomputable abbrev TGs:=List V->St->Hp->(St->Hp->Prop)->Prop
noncomputable def PG(X:Cx)(target:Expr)(t:TG):Prop :=
 ∀(pins:List (Addr×Obj))(s:Shared)(σ:St)(H:Hp)(v:V)(u:Value)(Q:St->Hp->Prop),Inv X pins σ H s->RelV v u->t v σ H Q ->
  wpAny (model X.prog X.w) X.A (assign target X.env u) (λ_ s'=>∃σ' H',Inv X pins σ' H' s'/\Q σ' H') X.xe s
noncomputable def PGs(X:Cx)(ts:List Expr)(t:TGs):Prop :=
 ∀(pins:List (Addr×Obj))(s:Shared)(σ:St)(H:Hp)(vs:List V)(us:List Value)(Q:St->Hp->Prop),Inv X pins σ H s->Vals vs us->t vs σ H Q ->
  wpAny (model X.prog X.w) X.A (assignInOrder ((assignEach ts X.env).map (·.2)) us) (λ_ s'=>∃σ' H',Inv X pins σ' H' s'/\Q σ' H') X.xe s
noncomputable abbrev TSet:=V->V->V->Hp->(Hp->Prop)->Prop
noncomputable def PSet(X:Cx)(t:TSet):Prop :=
 ∀(pins:List (Addr×Obj))(s:Shared)(σ:St)(H:Hp)(o i v:V)(ov iv u:Value)(Q:Hp->Prop),Inv X pins σ H s->RelV o ov->RelV i iv->RelV v u->t o i v H Q ->
  wpAny (model X.prog X.w) X.A (setItem ov iv u) (λ_ s'=>∃H',Inv X pins σ H' s'/\Q H') X.xe s
section
variable{X:Cx}{pos:Pos}
noncomputable def Qmp(i:Nat):TG:=λv σ H Q=>Q (σ.set i (some v)) H
theorem QkV{i:Nat}{x:Str}(hN:X.N.Nodup)(hi:X.N[i]?=some x)(hx:Loc X.env.scope x)(hf:X.fn x=true\/X.env.scope.names.lookup x=some .local:=by first|exact .inl rfl|exact .inr rfl|assumption):PG X (.Name x pos) (Qmp i):=by
 intro pins s σ H v u Q I r h
 exact wpAny_assign_Name (QaA I hN hi hx r (λs' I'=>⟨_,H,I',h⟩) hf)
noncomputable def gNil:TGs:=λvs σ H Q=>vs=[]/\Q σ H
noncomputable def QnN(t:TG)(u:TGs):TGs:=λvs σ H Q=>∃v r,vs=v::r/\t v σ H λσ' H'=>u r σ' H' Q
theorem QkW:PGs X [] gNil:=by
 intro pins s σ H vs us Q I r h
 obtain⟨e,h⟩:=h
 subst e
 cases r
 exact assignInOrder_nil ⟨σ,H,I,h⟩
theorem QiY{e:Expr}{es:List Expr}{t:TG}{u:TGs}(h1:PG X e t)(h2:PGs X es u)(hs:(assignEach (e::es) X.env).map (·.2)=assign e X.env::(assignEach es X.env).map (·.2):=by rfl):PGs X (e::es) (QnN t u):=by
 intro pins s σ H vs us Q I r h
 obtain⟨v,vr,e1,h⟩:=h
 subst e1
 cases r with
 |cons r rr =>
  rw[hs]
  refine RK (thn (h1 pins s σ H _ _ _ I r h) λ_ s1 ⟨σ1,H1,I1,q1⟩=>?_)
  exact h2 pins s1 σ1 H1 _ _ Q I1 rr q1
noncomputable def gTup(K:Frag)(n:Nat)(t:TGs):TG:=λv σ H Q=>∃a xs,v=.ref a/\SqT K H a xs/\xs.length=n/\t xs σ H Q
theorem Qmq{es:List Expr}{k:Nat}{t:TGs}{n:Nat}(hc:X.calm=true)(h:PGs X es t)(hn:(assignEach es X.env).length=n:=by rfl)(hst:(assignEach es X.env).findIdx? (·.1)=none:=by rfl):PG X (.Tuple es k pos) (gTup X.K n t):=by
 intro pins s σ H v u Q I r hw
 obtain⟨a,xs,e1,hq,hl,hw⟩:=hw
 subst e1
 cases r
 obtain⟨its,rv,ht,hz⟩:=I.tuple hq
 refine assign_Tuple_tuple (I.ok.hd hc) ht (by simp[hn,<-hl,rv.length]) hst λh' hx=>?_
 have I1:Inv X pins σ H {s with heap:=h'}:=I.kept (t':=s.toks) λb o e=>hx b o (UE (Uk e)) e
 exact h pins _ σ H xs _ Q I1 (by simpa using rv) hw
noncomputable def gSub(to ti:TE)(t:TSet):TG:=λv σ H Q=>to σ H λo H1=>ti σ H1 λi H2=>t o i v H2 λH3=>Q σ H3
theorem Qg6{o i:Expr}{to ti:TE}{t:TSet}(ho:PE X o to)(hi:PE X i ti)(hs:PSet X t)(ha:∀v,assign (.Subscript o i pos) X.env v=(do
   let ov <-holding [v] (eval o X.env)
   let iv <-holding [v,ov] (eval i X.env)
   standAt pos
   holding [v,ov,iv] (setItem ov iv v)
   release [v,ov,iv] []):=by intro _;rfl):PG X (.Subscript o i pos) (gSub to ti t):=by
 intro pins s σ H v u Q I r h
 rw[ha]
 refine Ua (Rn (thn (ho pins s σ H _ I h) λov s1 ⟨x,H1,I1,r1,q1⟩=>?_))
 refine Ua (Rn (thn (hi pins s1 σ H1 _ I1 q1) λiv s2 ⟨y,H2,I2,r2,q2⟩=>?_))
 refine Ua (RW (Ua (Rn (thn (hs pins s2 σ H2 x y v ov iv u _ I2 r1 r2 r q2) λ_ s3 ⟨H3,I3,q3⟩=>?_))))
 exact wpAny_release ⟨σ,H3,I3,q3⟩
noncomputable def tAsg(te:TE)(g:TG):TS:=λD σ H=>te σ H λx H1=>g x σ H1 D.nx
theorem Qfv{tg e:Expr}{te:TE}{g:TG}(he:PE X e te)(hg:PG X tg g)(hs:swapsWithSole [tg] e pos.line X.env=pure false:=by rfl)(hw:swappedStores [tg] e X.env=pure none:=by rfl)(h1:(assignEach [tg] X.env).map (·.2)=[assign tg X.env]:=by rfl):PS X (.Assign [tg] e pos) (tAsg te g):=by
 intro pins s σ H D I h
 refine wpAny_Assign_stores (thn (he pins s σ H _ I h) λv s1 ⟨x,H1,I1,r1,q1⟩=>?_) hs hw
 rw[h1]
 exact thn (hg pins s1 σ H1 x v _ I1 r1 q1) λ_ s2 q=>q
theorem Qmr{i:Nat}{x:Str}{e:Expr}{te:TE}{pos':Pos}(hN:X.N.Nodup)(hi:X.N[i]?=some x)(hx:Loc X.env.scope x)(he:PE X e te)(hs:swapsWith e (some (.Name x pos')) pos.line X.env=pure false:=by rfl)(hf:X.fn x=true\/X.env.scope.names.lookup x=some .local:=by first|exact .inl rfl|exact .inr rfl|assumption):
  PS X (.Assign [.Name x pos'] e pos) (tAsg te (Qmp i)):=by
 intro pins s σ H D I h
 refine wpAny_Assign_Name (thn (he pins s σ H _ I h) λv s1 ⟨y,H1,I1,r1,q1⟩=>?_) hs
 exact QaA I1 hN hi hx r1 (λs2 I2=>⟨_,H1,I2,q1⟩) hf
noncomputable def tPar(i j:Nat)(ta:TA):TS:=λD σ H=>ta σ H λvs H1=>∃v w,vs=[v,w]/\D.nx ((σ.set i (some v)).set j (some w)) H1
theorem Qms{i j:Nat}{x y:Str}{a b:Expr}{ta:TA}{px py pt:Pos}{kt k2 pt2}(hc:X.calm=true)(hN:X.N.Nodup)(hi:X.N[i]?=some x)(hj:X.N[j]?=some y)(hij:i≠j)(hx:X.env.scope.names.lookup x=some .local)(hy:X.env.scope.names.lookup y=some .local)(ha:PA X [a,b] ta)(hw:swappedStores [.Tuple [.Name x px,.Name y py] kt pt] (.Tuple [a,b] k2 pt2) X.env=pure (some [x,y]))(hs:swapsWithSole [.Tuple [.Name x px,.Name y py] kt pt] (.Tuple [a,b] k2 pt2) pos.line X.env=pure false:=by rfl):
  PS X (.Assign [.Tuple [.Name x px,.Name y py] kt pt] (.Tuple [a,b] k2 pt2) pos) (tPar i j ta):=by
 intro pins s σ H D I h
 rw[exec_Assign_arm]
 refine Ua (RW ?_)
 rw[hs]
 refine Ua (Uj ?_)
 rw[Uh (by decide)]
 refine Ua (Tuple_ (thn (ha _ pins s σ H _ I h) λus s1 ⟨vs,H1,I1,r1,q1⟩=>?_))
 obtain⟨v,w,e1,q1⟩:=q1
 subst e1
 obtain⟨u1,u2,rfl,rv,rw'⟩:∃u1 u2,us=[u1,u2]/\RelV v u1/\RelV w u2:=by
  cases r1 with
  |cons p q =>
   cases q with
   |cons p' q' =>
    cases q'
    exact⟨_,_,rfl,p,p'⟩
 refine U2 ?_ (by show 2<=sizeLine;decide)
 have I2:Inv X pins σ H1 {s1 with heap:=s1.heap.push {cls:=.type "tuple",data:=.seq [u1,u2].toArray} }:=I1.kept (t':=s1.toks) λb o e=>Ub _ e
 rw[hw]
 refine Ua (Uj ?_)
 show wpAny (model X.prog X.w) X.A (do rule "assign.swapped-stores";let items <-unpackItems (.ref s1.heap.objs.size) 2 none;assignInOrder [λv=>bindName X.env y v,λv=>bindName X.env x v] items.reverse;pure Flow.next) _ _ _
 refine Ua (Ro (Ua (unpackItems_tuple (items:=#[u1,u2]) (I.ok.hd hc) (IsTup.new s1.heap _) λh' hx'=>?_)))
 have I3:=I2.kept (h':=h') (t':=s1.toks) λb o e=>hx' b o (UE (Uk e)) e
 show wpAny _ _ (assignInOrder [λv=>bindName X.env y v,λv=>bindName X.env x v] [u2,u1] >>= λ_=>pure Flow.next) _ _ _
 refine Ua (RK (wpAny_bindName (QaA I3 hN hj (.inl hy) rw' (λs2 I4=>?_) (.inr hy))))
 refine RK (wpAny_bindName (QaA I4 hN hi (.inl hx) rv (λs3 I5=>assignInOrder_nil (Uj ?_)) (.inr hx)))
 rw[List.set_comm _ _ (Ne.symm hij)]at I5
 exact⟨_,H1,I5,q1⟩
end
section
variable{X:Cx}{pos:Pos}
noncomputable def Qmt(c:TT)(tb:TS):TS:=λD σ H=>∃W:Nat->St->Hp->Prop,(∃m,W m σ H)/\∀m σ H,W m σ H ->
 c σ H λb H1=>if b=true then ∃N:St->Hp->Prop,(∀σ' H',N σ' H'->∃m',m'<m/\W m' σ' H')/\tb {D with nx:=N,ct:=N,bk:=D.nx} σ H1 else D.nx σ H1
theorem QiZ{c:Expr}{body:List Stmt}{tc:TT}{tb:TS}(hp:PassesOwn (model X.prog X.w) X.A X.env X.xe)(hc:PT X c tc)(hb:PSs X body tb):PS X (.While c body [] pos) (Qmt tc tb):=by
 intro pins s σ H D I h
 obtain⟨W,⟨m0,w0⟩,turn⟩:=h
 refine wpAny_While (codeAny_whileLoop (λn s'=>∃σ' H',Inv X pins σ' H' s'/\W n σ' H') ?_ m0 ⟨σ,H,I,w0⟩)
 rintro n s1 ⟨σ1,H1,I1,w1⟩
 refine TL hp (thn (hc pins s1 σ1 H1 _ I1 (turn n σ1 H1 w1)) λb s2 ⟨H2,I2,q2⟩=>?_)
 cases b with
 |true =>
  obtain⟨N,hN,q2⟩:=q2
  rw[Uc rfl]
  refine TL hp (thn (hb pins s2 σ1 H2 _ I2 q2) λf s3 q3=>?_)
  cases f with
  |next =>
   obtain⟨σ3,H3,I3,n3⟩:=q3
   obtain⟨m',hm,w3⟩:=hN σ3 H3 n3
   exact⟨m',hm,σ3,H3,I3,w3⟩
  |cont =>
   obtain⟨σ3,H3,I3,n3⟩:=q3
   obtain⟨m',hm,w3⟩:=hN σ3 H3 n3
   exact⟨m',hm,σ3,H3,I3,w3⟩
  |brk=>exact q3
  |ret v=>exact q3
 |false =>
  rw[Uh Ud]
  exact Ry ⟨σ1,H2,I2,q2⟩
end
structure It where
 go:Nat->Hp->Prop
 yld:Nat->Hp->V->Hp->Prop
 stop:Nat->Hp->Prop
noncomputable def FpOk(X:Cx)(pins:List (Addr×Obj))(H:Hp)(b:Addr):Prop :=
 H b=none/\b≠X.env.locals/\b∉X.fs/\(b∈X.ex\/X.s₀.heap.objs.size<=b)/\(∀x c,X.env.cells.lookup x=some c->c≠b)/\∀p∈X.pn++pins,p.1≠b
theorem Inv.fpOk{X:Cx}{pins:List (Addr×Obj)}{σ:St}{H H':Hp}{s:Shared}{b:Addr}(I:Inv X pins σ H s)(hb:s.heap.objs.size<=b)(hn:H' b=none):FpOk X pins H' b:=by
 refine⟨hn,Rj (Uw I.lt hb),I.nofs hb,.inr (Ux I.sz hb),λx c e z=>?_,λp hp z=>?_⟩
 ·obtain⟨v,q⟩:=I.cell x c e
  exact absurd (Uw q.lt (by rw[z];exact hb)) (Ti _)
 ·exact absurd (Uw (Uk (I.pin p hp).1) (by rw[z];exact hb)) (Ti _)
structure Turn(P:Program)(w:World)(K:Frag)(tg:Expr)(J:It)(fp:List Addr)(it:Addr)(tn:Nat->Heap->Prop):Prop where
 mem:it∈fp
 obj:∀i h,tn i h->∀b∈fp,∃o,h.get? b=some o/\∀v,o.data≠.cell v
 keep:∀i h h',tn i h->(∀b∈fp,∀o,h.get? b=some o->h'.get? b=some o)->tn i h'
 item:∀(X:Cx),X.prog=P->X.w=w->X.K=K->X.calm=true->∀(i:Nat)(pins:List (Addr×Obj))(s:Shared)(σ:St)(H:Hp)(E:Value->Shared->Prop),Inv X pins σ H s->(∀b∈fp,FpOk X pins H b)->tn i s.heap->J.go i H ->
  wpAny (model P w) X.A (pyNext (.ref it)) (λr s1=>∃u,r=some u /\
   wpAny (model P w) X.A (letOwnedTupleGo tg (.ref it) u) (λ_ s2=>∃x H',Inv X pins σ H' s2/\RelV x u/\J.yld i H x H'/\tn (i+1) s2.heap/\∀b∈fp,H' b=none) E s1) E s
 done:∀(X:Cx),X.prog=P->X.w=w->X.K=K->X.calm=true->∀(i:Nat)(pins:List (Addr×Obj))(s:Shared)(σ:St)(H:Hp)(E:Value->Shared->Prop),Inv X pins σ H s->(∀b∈fp,FpOk X pins H b)->tn i s.heap->J.stop i H ->
  wpAny (model P w) X.A (pyNext (.ref it)) (λr s1=>r=none/\Inv X pins σ H s1) E s
 self:∀(A:Around)(i:Nat)(s:Shared)(Q:Value->Shared->Prop)(E:Value->Shared->Prop),tn i s.heap->Q (.ref it) s->wpAny (model P w) A (pyIter (.ref it)) Q E s
noncomputable abbrev TI:=St->Hp->(It->Hp->Prop)->Prop
noncomputable def PIE(X:Cx)(pins:List (Addr×Obj))(σ:St)(tg:Expr)(R:It->Hp->Prop)(itv:Value)(s2:Shared):Prop :=
 ∃(it:Addr)(fp:List Addr)(tn:Nat->Heap->Prop)(J:It)(H':Hp),itv=.ref it/\Inv X pins σ H' s2/\Turn X.prog X.w X.K tg J fp it tn/\tn 0 s2.heap/\(∀b∈fp,FpOk X pins H' b)/\R J H'
noncomputable def PI(X:Cx)(tg iter:Expr)(wi:TI):Prop :=
 ∀(pins:List (Addr×Obj))(s:Shared)(σ:St)(H:Hp)(R:It->Hp->Prop),Inv X pins σ H s->wi σ H R ->
  wpAny (model X.prog X.w) X.A (eval iter X.env) (λv s1=>wpAny (model X.prog X.w) X.A (pyIter v) (PIE X pins σ tg R) X.xe s1) X.xe s
theorem Qgk{M:Model}{A:Around}{E:Value->Shared->Prop}{s:Shared}{tg:Expr}{it:Addr}{u:Value}{o:Obj}{n:String}{vs:Array Value}{Q:Unit->Shared->Prop}(ho:s.heap.get? it=some o)(hc:o.cls=.type n)(hd:o.data=.fields vs)(hn:["enumerate", "zip", "dict_itemiterator", "dict_reverseitemiterator", "odict_iterator", "itertools.zip_longest", "itertools.pairwise"].contains n=false)(hQ:Q () s):wpAny M A (letOwnedTupleGo tg (.ref it) u) Q E s:=by
  unfold letOwnedTupleGo
  cases tg <;> first
    |exact Uj hQ
    | (cases u <;> first
        |exact Uj hQ
        | (refine Ua (wpAny_load ho ?_)
           rw[hc,hd]
           show wpAny M A (if (["enumerate", "zip", "dict_itemiterator", "dict_reverseitemiterator", "odict_iterator", "itertools.zip_longest", "itertools.pairwise"].contains n && vs[0]? == some (rawInt _))=true then _ else _) Q E s
           rw[Uh (by intro h;rw[hn,Bool.false_and]at h;cases h)]
           exact Uj hQ))
noncomputable def Itl(K:Frag)(a:Addr):It :=
 ⟨λi H=>∃xs x,SqL K H a xs/\xs[i]?=some x,λi H x H'=>H'=H/\∀xs,SqL K H a xs->xs[i]?=some x,λi H=>∃xs,SqL K H a xs/\xs.length<=i⟩
noncomputable def Itt(K:Frag)(a:Addr):It :=
 ⟨λi H=>∃xs x,SqT K H a xs/\xs[i]?=some x,λi H x H'=>H'=H/\∀xs,SqT K H a xs->xs[i]?=some x,λi H=>∃xs,SqT K H a xs/\xs.length<=i⟩
noncomputable def Itr(lo:Int)(n:Nat):It:=⟨λi _=>i<n,λi H x H'=>H'=H/\x=.int (lo+i),λi _=>n<=i⟩
theorem Qg7{P:Program}{w:World}{K:Frag}{tg:Expr}(a it:Addr):Turn P w K tg (Itl K a) [it] it (λi h=>h.IsListIter it a i) where
 mem:=by simp
 obj:=λi h st b hb=>by
  have e:b=it:=by simpa using hb
  subst e
  obtain⟨o,e,c,d⟩:=st
  exact⟨o,e,λv z=>by rw[d]at z;cases z⟩
 keep:=λi h h' st k=>st.at λo e=>k it (by simp) o e
 item:=by
  intro X hP hw hK hc i pins s σ H E I hf st hg
  subst hP hw hK
  obtain⟨xs,x,hq,hx⟩:=hg
  obtain⟨its,rv,p,hz⟩:=I.list hq
  obtain⟨u,hu,ru⟩:=rv.get hx
  obtain⟨f0,f1,f2,f3,f4,f5⟩:=hf it (by simp)
  refine wpAny_pyNext_list_item st p.isList (x:=u) (by simpa using hu) λh' st' sb=>?_
  have I1:Inv X pins σ H {s with heap:=h'}:=I.turned (t':=s.toks) (λb o hb e=>(sb.2 b hb).trans e) f0 f1 f3 f4 f5
  obtain⟨o,e,c,d⟩:=id st'
  exact⟨u,rfl,Qgk (s:={s with heap:=h'}) e c d (by decide) ⟨x,H,I1,ru,⟨rfl,λys hy=>by rw[I.list_inj hy hq];exact hx⟩,st',λb hb=>(hf b hb).1⟩⟩
 done:=by
  intro X hP hw hK hc i pins s σ H E I hf st hg
  subst hP hw hK
  obtain⟨xs,hq,hx⟩:=hg
  obtain⟨its,rv,p,hz⟩:=I.list hq
  obtain⟨f0,f1,f2,f3,f4,f5⟩:=hf it (by simp)
  have hl:=rv.length
  exact wpAny_pyNext_list_end (I.ok.hd hc) st p.isList (by simp;omega) λh' eb=>⟨rfl,I.turned (t':=s.toks) (λb o hb e=>eb b o hb e) f0 f1 f3 f4 f5⟩
 self:=λ_ _ _ _ _ st h=>wpAny_pyIter_listiter st h
theorem Qgl{P:Program}{w:World}{K:Frag}{tg:Expr}(a it:Addr):Turn P w K tg (Itt K a) [it] it (λi h=>h.IsTupleIter it a i) where
 mem:=by simp
 obj:=λi h st b hb=>by
  have e:b=it:=by simpa using hb
  subst e
  obtain⟨o,e,c,d⟩:=st
  exact⟨o,e,λv z=>by rw[d]at z;cases z⟩
 keep:=λi h h' st k=>st.at λo e=>k it (by simp) o e
 item:=by
  intro X hP hw hK hc i pins s σ H E I hf st hg
  subst hP hw hK
  obtain⟨xs,x,hq,hx⟩:=hg
  obtain⟨its,rv,p,hz⟩:=I.tuple hq
  obtain⟨u,hu,ru⟩:=rv.get hx
  obtain⟨f0,f1,f2,f3,f4,f5⟩:=hf it (by simp)
  refine wpAny_pyNext_tuple_item st (show s.heap.IsTuple a its.toArray from p) (x:=u) (by simpa using hu) λh' st' sb=>?_
  have I1:Inv X pins σ H {s with heap:=h'}:=I.turned (t':=s.toks) (λb o hb e=>(sb.2 b hb).trans e) f0 f1 f3 f4 f5
  obtain⟨o,e,c,d⟩:=id st'
  exact⟨u,rfl,Qgk (s:={s with heap:=h'}) e c d (by decide) ⟨x,H,I1,ru,⟨rfl,λys hy=>by rw[I.tuple_inj hy hq];exact hx⟩,st',λb hb=>(hf b hb).1⟩⟩
 done:=by
  intro X hP hw hK hc i pins s σ H E I hf st hg
  subst hP hw hK
  obtain⟨xs,hq,hx⟩:=hg
  obtain⟨its,rv,p,hz⟩:=I.tuple hq
  obtain⟨f0,f1,f2,f3,f4,f5⟩:=hf it (by simp)
  have hl:=rv.length
  exact wpAny_pyNext_tuple_end (I.ok.hd hc) st (show s.heap.IsTuple a its.toArray from p) (by simp;omega) λh' eb=>⟨rfl,I.turned (t':=s.toks) (λb o hb e=>eb b o hb e) f0 f1 f3 f4 f5⟩
 self:=λ_ _ _ _ _ st h=>wpAny_pyIter_tupleiter st h
theorem Qgm{P:Program}{w:World}{K:Frag}{tg:Expr}(it:Addr)(lo:Int)(n:Nat):Turn P w K tg (Itr lo n) [it] it (λi h=>IsRangeIter h it (lo+(i:Nat)*1) ((n:Int) - (i:Nat)) 1) where
 mem:=by simp
 obj:=λi h st b hb=>by
  have e:b=it:=by simpa using hb
  subst e
  exact⟨_,st,λv z=>by
   have z':Data.fields _=Data.cell v:=z
   cases z'⟩
 keep:=λi h h' st k=>k it (by simp) _ st
 item:=by
  intro X hP hw hK hc i pins s σ H E I hf st hg
  subst hP hw hK
  obtain⟨f0,f1,f2,f3,f4,f5⟩:=hf it (by simp)
  have W:=Walks.range (prog:=X.prog) (w:=X.w) (I.ok.hd hc) it lo 1 n
  refine W.item i s _ _ hg st λv h' tk hv st' kk=>?_
  obtain⟨t,rfl⟩:=hv
  have I1:Inv X pins σ H {s with heap:=h',toks:=tk}:=I.turned (λb o hb e=>kk b o (by simpa using hb) e) f0 f1 f3 f4 f5
  refine⟨_,rfl,Qgk (s:={s with heap:=h',toks:=tk}) (n:="range_iterator") st' rfl rfl (by decide) ⟨.int (lo+i),H,I1,⟨t,?_⟩,⟨rfl,rfl⟩,st',λb hb=>(hf b hb).1⟩⟩
  rw[Int.mul_one]
 done:=by
  intro X hP hw hK hc i pins s σ H E I hf st hg
  subst hP hw hK
  obtain⟨f0,f1,f2,f3,f4,f5⟩:=hf it (by simp)
  exact wpAny_pyNext_range_end (I.ok.hd hc) st (by have:n<=i:=hg;omega) λh' eb=>⟨rfl,I.turned (t':=s.toks) (λb o hb e=>eb b o hb e) f0 f1 f3 f4 f5⟩
 self:=λ_ _ _ _ _ st h=>wpAny_pyIter_rangeiter st h
end
section
section
variable{X:Cx}{tg:Expr}
theorem Qfw{pins:List (Addr×Obj)}{σ:St}{H:Hp}{s:Shared}{R:It->Hp->Prop}{E:Value->Shared->Prop}{lo hi:Int}{t u v:Tok}{tk:Nat}(I:Inv X pins σ H s)(h1:-(2^62)<=lo)(h2:lo<2^62)(h3:-(2^62)<=hi)(h4:hi<2^62)(q:R (Itr lo (hi-lo).toNat) H):wpAny (model X.prog X.w) X.A (pyIter (.ref s.heap.objs.size)) (PIE X pins σ tg R) E {s with heap:=s.heap.push {cls:=.type "range",data:=.fields #[.int lo t,.int hi u,.int 1 v]},toks:=tk}:=by
 refine wpAny_pyIter_range (IsRange.new ..) (small_one h1 h2 h3 h4) ?_
 have I1:Inv X pins σ H {s with heap:=s.heap.push {cls:=.type "range",data:=.fields #[.int lo t,.int hi u,.int 1 v]},toks:=tk}:=I.kept λb o e=>Ub _ e
 refine⟨(s.heap.push {cls:=.type "range",data:=.fields #[.int lo t,.int hi u,.int 1 v]}).objs.size,[(s.heap.push {cls:=.type "range",data:=.fields #[.int lo t,.int hi u,.int 1 v]}).objs.size],_,_,H,rfl,
  I1.kept (t':=tk) λb o e=>Ub _ e,Qgm _ lo (hi-lo).toNat,?_,λb hb=>?_,q⟩
 ·have e1:lo+((0:Nat):Int)*1=lo:=by simp
  have e2:(((hi-lo).toNat:Nat):Int) - ((0:Nat):Int)=Builtin.Range.rangeSize lo hi 1:=by rw[rangeSize_one];split <;> omega
  show IsRangeIter _ _ (lo+((0:Nat):Int)*1) ((((hi-lo).toNat:Nat):Int) - ((0:Nat):Int)) 1
  rw[e1,e2]
  exact Ul _ rfl
 ·have e:b=(s.heap.push {cls:=.type "range",data:=.fields #[.int lo t,.int hi u,.int 1 v]}).objs.size:=by simpa using hb
  subst e
  exact I1.fpOk (Ug _) (I1.hok.fresh (Ug _))
noncomputable def QnO(ta:TA):TI:=λσ H R=>ta σ H λvs H1=>∃j:Int,vs=[.int j] /\ -(2^62)<=j/\j<2^62/\R (Itr 0 j.toNat) H1
noncomputable def QnP(ta:TA):TI:=λσ H R=>ta σ H λvs H1=>∃i j:Int,vs=[.int i,.int j]/\(-(2^62)<=i/\i<2^62 /\ -(2^62)<=j/\j<2^62)/\R (Itr i (j-i).toNat) H1
theorem Qg8{a:Expr}{ta:TA}{p pos:Pos}(hg:Gl X "range")(hm:X.mg "range" = none)(ha:PA X [a] ta)(hs:starEach [a] X.env=[(false,eval a X.env)]:=by rfl):PI X tg (.Call (.Name "range" p) [a] [] pos) (QnO ta):=by
 intro pins s σ H R I h
 refine Call_ (Jw I hg hm boot_range (UG (thn (ha pos pins s σ H _ I h) λus s1 ⟨vs,H1,I1,r1,q1⟩=>?_) hs rfl))
 obtain⟨j,e,q1,q2,q⟩:=q1
 subst e
 cases r1 with
 |cons r rr =>
  cases rr
  obtain⟨t,rfl⟩:=r
  exact call_range_1 (Qfw I1 (by omega) (by omega) q1 q2 (by simpa using q))
theorem Qg9{a b:Expr}{ta:TA}{p pos:Pos}(hg:Gl X "range")(hm:X.mg "range" = none)(ha:PA X [a,b] ta)(hs:starEach [a,b] X.env=[(false,eval a X.env),(false,eval b X.env)]:=by rfl)(hs2:starEach [b] X.env=[(false,eval b X.env)]:=by rfl):
  PI X tg (.Call (.Name "range" p) [a,b] [] pos) (QnP ta):=by
 intro pins s σ H R I h
 refine Call_ (Jw I hg hm boot_range (UG (thn (ha pos pins s σ H _ I h) λus s1 ⟨vs,H1,I1,r1,q1⟩=>?_) (by rw[hs,hs2]) (by rw[hs2];rfl)))
 obtain⟨i,j,e,⟨q1,q2,q3,q4⟩,q⟩:=q1
 subst e
 cases r1 with
 |cons r rr =>
  cases rr with
  |cons r' rr =>
   cases rr
   obtain⟨t,rfl⟩:=r
   obtain⟨t',rfl⟩:=r'
   exact call_range_2 (Qfw I1 q1 q2 q3 q4 q)
noncomputable def tFor(wi:TI)(g:TG)(tb:TS):TS:=λD σ H=>wi σ H λJ H1=>∃W:Nat->Nat->St->Hp->Prop,(∃m,W 0 m σ H1)/\∀i m σ H,W i m σ H ->
 (J.stop i H/\D.nx σ H)\/(J.go i H/\∃N:St->Hp->Prop,(∀σ' H',N σ' H'->∃m',m'<m/\W (i+1) m' σ' H')/\∀x H',J.yld i H x H'->g x σ H' λσ2 H2=>tb {D with nx:=N,ct:=N,bk:=D.nx} σ2 H2)
noncomputable def QdP(fp:List Addr)(h:Heap):List (Addr×Obj):=fp.filterMap λb=>(h.get? b).map λo=>(b,o)
theorem J5{fp:List Addr}{h:Heap}{b:Addr}{o:Obj}(hb:b∈fp)(e:h.get? b=some o):(b,o)∈QdP fp h:=RL.mpr ⟨b,hb,by rw[e];rfl⟩
theorem Qha{fp:List Addr}{h:Heap}{p:Addr×Obj}(hp:p∈QdP fp h):p.1∈fp/\h.get? p.1=some p.2:=by
 obtain⟨b,hb,e⟩:=RL.mp hp
 cases q:h.get? b with
 |none=>rw[q]at e;cases e
 |some o =>
  rw[q]at e
  have e':(b,o)=p:=Option.some.inj e
  subst e'
  exact⟨hb,q⟩
theorem Inv.pinned{pins:List (Addr×Obj)}{σ:St}{H:Hp}{s:Shared}{fp:List Addr}(I:Inv X pins σ H s)(hf:∀b∈fp,FpOk X pins H b)(ho:∀b∈fp,∃o,s.heap.get? b=some o/\∀v,o.data≠.cell v):Inv X (pins++QdP fp s.heap) σ H s :=
 I.pins_of λp hp=>(Uz.mp hp).elim (λz=>I.pin p (Uv _ z)) λz=>by
  obtain⟨hb,e⟩:=Qha z
  obtain⟨f0,f1,f2,_⟩:=hf p.1 hb
  obtain⟨o,e',d⟩:=ho p.1 hb
  rw[e]at e';cases e'
  exact⟨e,f0,f1,f2,d⟩
theorem Inv.unpinned{pins pl:List (Addr×Obj)}{σ:St}{H:Hp}{s:Shared}(I:Inv X (pins++pl) σ H s):Inv X pins σ H s:=I.pins_of λp hp=>I.pin p (Uv _ (UQ _ hp))
theorem Qmu{iter:Expr}{body:List Stmt}{wi:TI}{g:TG}{tb:TS}{pos:Pos}(hp:PassesOwn (model X.prog X.w) X.A X.env X.xe)(hc:X.calm=true)(hi:PI X tg iter wi)(hg:PG X tg g)(hb:PSs X body tb)(hs:∀x,foldedSetIterable iter X.env x=pure x:=by intro _;rfl):PS X (.For tg iter body [] pos) (tFor wi g tb):=by
 intro pins s σ H D I h
 refine wpAny_For (thn (hi pins s σ H _ I h) λv s1 h1=>thn h1 λitv s2 h2=>?_) hs
 obtain⟨it,fp,tn,J,H2,e,I2,T,st2,f2,W,⟨m0,w0⟩,turn⟩:=h2
 subst e
 -- what stays true of the iterator's objects through the loop
 have stat:∀{H':Hp},(∀b∈fp,H' b=none)->∀b∈fp,FpOk X pins H' b:=λhn b hb=>⟨hn b hb,(f2 b hb).2⟩
 refine codeAny_forLoop_any (λn s'=>∃i σ' H',Inv X pins σ' H' s'/\tn i s'.heap/\(∀b∈fp,H' b=none)/\W i n σ' H') ?_ m0 ⟨0,σ,H2,I2,st2,λb hb=>(f2 b hb).1,w0⟩
 rintro n s3 ⟨i,σ3,H3,I3,st3,fr3,w3⟩
 rcases turn i n σ3 H3 w3 with⟨stop,qn⟩|⟨go,N,hN,step⟩
 ·refine TL hp (thn (T.done X rfl rfl rfl hc i pins s3 σ3 H3 X.xe I3 (stat fr3) st3 stop) λr s4 ⟨hr,I4⟩=>?_)
  subst hr
  exact Ry ⟨σ3,H3,I4,qn⟩
 ·refine TL hp (thn (T.item X rfl rfl rfl hc i pins s3 σ3 H3 X.xe I3 (stat fr3) st3 go) λr s4 ⟨u,hr,h4⟩=>?_)
  subst hr
  refine TL hp (thn h4 λ_ s5 ⟨x,H5,I5,r5,y5,st5,fr5⟩=>?_)
  have I5':=I5.pinned (stat fr5) (T.obj _ _ st5)
  refine TL hp (thn (hg _ s5 σ3 H5 x u _ I5' r5 (step x H5 y5)) λ_ s6 ⟨σ6,H6,I6,q6⟩=>?_)
  refine TL hp (thn (hb _ s6 σ6 H6 _ I6 q6) λf s7 q7=>?_)
  have again:∀{σ7:St}{H7:Hp},Inv X (pins++QdP fp s5.heap) σ7 H7 s7->N σ7 H7->∃m,m<n/\∃i σ' H',Inv X pins σ' H' s7/\tn i s7.heap/\(∀b∈fp,H' b=none)/\W i m σ' H':=λ{σ7 H7} I7 n7=>by
   obtain⟨m',hm,w7⟩:=hN σ7 H7 n7
   refine⟨m',hm,i+1,σ7,H7,I7.unpinned,T.keep _ _ _ st5 λb hb o e=>(I7.pin (b,o) (Uv _ (Uv _ (J5 hb e)))).1,λb hb=>?_,w7⟩
   obtain⟨o,e,d⟩:=T.obj _ _ st5 b hb
   exact(I7.pin (b,o) (Uv _ (Uv _ (J5 hb e)))).2.1
  cases f with
  |next=>obtain⟨σ7,H7,I7,n7⟩:=q7;exact again I7 n7
  |cont=>obtain⟨σ7,H7,I7,n7⟩:=q7;exact again I7 n7
  |brk=>obtain⟨σ7,H7,I7,q7⟩:=q7;exact⟨σ7,H7,I7.unpinned,q7⟩
  |ret v=>obtain⟨x7,σ7,H7,I7,r7,q7⟩:=q7;exact⟨x7,σ7,H7,I7.unpinned,r7,q7⟩
end
end
section
noncomputable abbrev R2:=V->V->Hp->VK->Prop
noncomputable def OpR(X:Cx)(f:Value->Value->Sem Value)(r:R2):Prop :=
 ∀(pins:List (Addr×Obj))(s:Shared)(σ:St)(H:Hp)(x y:V)(v u:Value)(Q:VK),Inv X pins σ H s->RelV x v->RelV y u->r x y H Q ->
  wpAny (model X.prog X.w) X.A (f v u) (EP X pins σ Q) X.xe s
noncomputable def UnR(X:Cx)(f:Value->Sem Value)(r:V->Hp->VK->Prop):Prop :=
 ∀(pins:List (Addr×Obj))(s:Shared)(σ:St)(H:Hp)(x:V)(v:Value)(Q:VK),Inv X pins σ H s->RelV x v->r x H Q ->
  wpAny (model X.prog X.w) X.A (f v) (EP X pins σ Q) X.xe s
noncomputable def CallR(X:Cx)(f:Value)(r:List V->Hp->VK->Prop):Prop :=
 ∀(pins:List (Addr×Obj))(s:Shared)(σ:St)(H:Hp)(xs:List V)(us:List Value)(Q:VK),Inv X pins σ H s->Vals xs us->r xs H Q ->
  wpAny (model X.prog X.w) X.A (call f us) (EP X pins σ Q) X.xe s
noncomputable def tOp(r:R2)(ta tb:TE):TE:=λσ H Q=>ta σ H λx H1=>tb σ H1 λy H2=>r x y H2 Q
noncomputable def tUn(r:V->Hp->VK->Prop)(ta:TE):TE:=λσ H Q=>ta σ H λx H1=>r x H1 Q
noncomputable def rI(C:Int->Int->Prop)(g:Int->Int->V):R2:=λx y H Q=>∃i j,x=.int i/\y=.int j/\C i j/\Q (g i j) H
noncomputable def rI0(g:Int->Int->V):R2:=λx y H Q=>∃i j,x=.int i/\y=.int j/\Q (g i j) H
noncomputable def rU(g:Int->V):V->Hp->VK->Prop:=λx H Q=>∃i,x=.int i/\Q (g i) H
section
variable{X:Cx}{a b c:Expr}{ta tb tc:TE}{pos:Pos}
theorem binT(ha:PE X a ta)(hb:PE X b tb){pins:List (Addr×Obj)}{s:Shared}{σ:St}{H:Hp}{R:V->V->Hp->Prop}(I:Inv X pins σ H s)(h:ta σ H λx H1=>tb σ H1 λy H2=>R x y H2){Q:Value->Shared->Prop}{f:Value->Value->Sem Value}(hf:∀v u s2 x y H2,Inv X pins σ H2 s2->RelV x v->RelV y u->R x y H2->wpAny (model X.prog X.w) X.A (f v u) Q X.xe s2):
  wpAny (model X.prog X.w) X.A (eval a X.env) (λv s₁=>wpAny (model X.prog X.w) X.A (eval b X.env) (λu s₂=>wpAny (model X.prog X.w) X.A (f v u) Q X.xe s₂) X.xe s₁) X.xe s:=by
 refine thn (ha pins s σ H _ I h) λv s1 ⟨x,H1,I1,r1,q1⟩=>?_
 refine thn (hb pins s1 σ H1 _ I1 q1) λu s2 ⟨y,H2,I2,r2,q2⟩=>?_
 exact hf v u s2 x y H2 I2 r1 r2 q2
theorem QnQ{op:Operator}{r:R2}(ho:OpR X (binaryOp op) r)(ha:PE X a ta)(hb:PE X b tb):PE X (.BinOp a op b pos) (tOp r ta tb):=by
 intro pins s σ H Q I h
 exact wpAny_BinOp (binT ha hb I h λv u s2 x y H2 I2 rx ry q=>ho pins s2 σ H2 x y v u Q I2 rx ry q)
theorem QnR{op:UnaryOp}{r:V->Hp->VK->Prop}(ho:UnR X (unaryOp op) r)(ha:PE X a ta):PE X (.UnaryOp op a pos) (tUn r ta):=by
 intro pins s σ H Q I h
 exact UnaryOp_ (thn (ha pins s σ H _ I h) λv s1 ⟨x,H1,I1,r1,q1⟩=>ho pins s1 σ H1 x v Q I1 r1 q1)
theorem opI{f:Value->Value->Sem Value}{C:Int->Int->Prop}{g:Int->Int->Int}(rule:∀(i j:Int) (t u:Tok) (s:Shared) (Q:Value->Shared->Prop) (E:Value->Shared->Prop),C i j->Q (.int (g i j) s.toks) {s with toks:=s.toks+1}->wpAny (model X.prog X.w) X.A (f (.int i t) (.int j u)) Q E s):
  OpR X f (rI C λi j=>.int (g i j)):=by
 intro pins s σ H x y v u Q I rx ry h
 obtain⟨i,j,rfl,rfl,hc,q⟩:=h
 obtain⟨t,rfl⟩:=rx
 obtain⟨t',rfl⟩:=ry
 exact rule i j t t' s _ _ hc ⟨.int (g i j),H,I.tok _,⟨_,rfl⟩,q⟩
theorem opI0{f:Value->Value->Sem Value}{g:Int->Int->Int}(rule:∀(i j:Int) (t u:Tok) (s:Shared) (Q:Value->Shared->Prop) (E:Value->Shared->Prop),Q (.int (g i j) s.toks) {s with toks:=s.toks+1}->wpAny (model X.prog X.w) X.A (f (.int i t) (.int j u)) Q E s):
  OpR X f (rI0 λi j=>.int (g i j)):=by
 intro pins s σ H x y v u Q I rx ry h
 obtain⟨i,j,rfl,rfl,q⟩:=h
 obtain⟨t,rfl⟩:=rx
 obtain⟨t',rfl⟩:=ry
 exact rule i j t t' s _ _ ⟨.int (g i j),H,I.tok _,⟨_,rfl⟩,q⟩
theorem opB0{f:Value->Value->Sem Value}{g:Int->Int->Bool}(rule:∀(i j:Int) (t u:Tok) (s:Shared) (Q:Value->Shared->Prop) (E:Value->Shared->Prop),Q (.bool (g i j)) s->wpAny (model X.prog X.w) X.A (f (.int i t) (.int j u)) Q E s):
  OpR X f (rI0 λi j=>.bl (g i j)):=by
 intro pins s σ H x y v u Q I rx ry h
 obtain⟨i,j,rfl,rfl,q⟩:=h
 obtain⟨t,rfl⟩:=rx
 obtain⟨t',rfl⟩:=ry
 exact rule i j t t' s _ _ ⟨.bl (g i j),H,I,rfl,q⟩
def CDiv(i j:Int):Prop:=0<j/\j<1073741824
def CMul(i j:Int):Prop:=(-(2^64)<i/\i<2^64)\/(-(2^64)<j/\j<2^64)
theorem CMul.ok{i j:Int}(h:CMul i j):IntMulOk i j:=by
 rcases h with⟨h1,h2⟩|⟨h1,h2⟩
 ·exact .of_left (intBits_le_64 h1 h2)
 ·exact .of_right (intBits_le_64 h1 h2)
theorem op_add:OpR X (binaryOp .Add) (rI0 λi j=>.int (i+j)):=opI0 λ_ _ _ _ _ _ _ q=>add_int q
theorem Qmv:OpR X (binaryOp .Sub) (rI0 λi j=>.int (i-j)):=opI0 λ_ _ _ _ _ _ _ q=>sub_int q
theorem Qmw:OpR X (binaryOp .Mult) (rI CMul λi j=>.int (i*j)):=opI λ_ _ _ _ _ _ _ hc q=>mul_int q hc.ok
theorem QkX:OpR X (binaryOp .FloorDiv) (rI CDiv λi j=>.int (i/j)):=opI λi j _ _ _ _ _ hc q=>by
 have h1:(0:Int)<j:=hc.1
 have h2:j<1073741824:=hc.2
 exact floordiv_int (by omega) (by rw[Int.fdiv_eq_ediv_of_nonneg i (by omega)];exact q) (.inl (Wh (by omega)))
theorem Qmx:OpR X (binaryOp .Mod) (rI (λ_ j=>0<j) λi j=>.int (i%j)):=opI λi j _ _ _ _ _ hc q=>by
 have h1:(0:Int)<j:=hc
 exact mod_int' (by omega) (by rw[Int.fmod_eq_emod_of_nonneg i (by omega)];exact q)
theorem unI{f:Value->Sem Value}{g:Int->Int}(rule:∀(i:Int) (t:Tok) (s:Shared) (Q:Value->Shared->Prop) (E:Value->Shared->Prop),Q (.int (g i) s.toks) {s with toks:=s.toks+1}->wpAny (model X.prog X.w) X.A (f (.int i t)) Q E s):
  UnR X f (rU λi=>.int (g i)):=by
 intro pins s σ H x v Q I rx h
 obtain⟨i,rfl,q⟩:=h
 obtain⟨t,rfl⟩:=rx
 exact rule i t s _ _ ⟨.int (g i),H,I.tok _,⟨_,rfl⟩,q⟩
theorem Qmy:UnR X (unaryOp .USub) (rU λi=>.int (-i)):=unI λ_ _ _ _ _ q=>neg_int q
end
noncomputable def scal:V->V->Bool
 |.non,.non=>true | .non,.int _=>true | .int _,.non=>true | .non,.bl _=>true | .bl _,.non=>true | .non,.str _=>true | .str _,.non=>true
 |.int _,.int _=>true | .bl _,.bl _=>true | .str _,.str _=>true | .byt _,.byt _=>true
 |.int _,.str _=>true | .str _,.int _=>true | .bl _,.str _=>true | .str _,.bl _=>true
 |_,_=>false
noncomputable def rEq:R2:=λx y H Q=>scal x y=true/\Q (.bl (decide (x=y))) H
noncomputable def rNe:R2:=λx y H Q=>scal x y=true/\Q (.bl (!decide (x=y))) H
theorem QcY{i j:Int}:decide (V.int i=V.int j)=(i == j):=by
 rw[Ts]
 simp
theorem Qhb{i j:Bool}:decide (V.bl i=V.bl j)=(i == j):=by
 rw[Ts]
 simp
theorem QcZ{i j:Str}:decide (V.str i=V.str j)=(i == j):=by
 rw[Ts]
 simp
theorem Qhc{i j:Array UInt8}:decide (V.byt i=V.byt j)=(i.toList == j.toList):=by
 rw[Ts]
 cases i
 cases j
 simp
section
variable{X:Cx}{a b c:Expr}{ta tb tc:TE}{pos:Pos}
theorem QT{pins:List (Addr×Obj)}{σ:St}{H:Hp}{s:Shared}{Q:VK}{k k':Bool}(I:Inv X pins σ H s)(q:Q (.bl k) H)(e:k=k'):EP X pins σ Q (.bool k') s:=by
 subst e
 exact⟨.bl k,H,I,rfl,q⟩
theorem op_eq:OpR X (compareOp .Eq) rEq:=by
 intro pins s σ H x y v u Q I rx ry h
 obtain⟨hs,q⟩:=h
 cases x with
 |non =>
  cases rx
  cases y with
  |non=>cases ry;exact PySem.EqNone.eq_none_none (QT I q (by simp))
  |bl j=>cases ry;exact PySem.EqNone.eq_none_bool (QT I q (by simp))
  |int j=>obtain⟨t',rfl⟩:=ry;exact PySem.EqNone.eq_none_int (QT I q (by simp))
  |str j=>obtain⟨t',rfl⟩:=ry;exact PySem.EqNone.eq_none_str (QT I q (by simp))
  |_=>exact absurd (show false=true from hs) Ud
 |bl i =>
  cases rx
  cases y with
  |non=>cases ry;exact PySem.EqNone.eq_bool_none (QT I q (by simp))
  |bl j=>cases ry;exact eq_bool (QT I q Qhb)
  |str j=>obtain⟨t',rfl⟩:=ry;exact PySem.EqMixed.eq_bool_str (QT I q (by simp))
  |_=>exact absurd (show false=true from hs) Ud
 |int i =>
  obtain⟨t,rfl⟩:=rx
  cases y with
  |non=>cases ry;exact PySem.EqNone.eq_int_none (QT I q (by simp))
  |int j=>obtain⟨t',rfl⟩:=ry;exact eq_int (QT I q QcY)
  |str j=>obtain⟨t',rfl⟩:=ry;exact PySem.EqMixed.eq_int_str (QT I q (by simp))
  |_=>exact absurd (show false=true from hs) Ud
 |str i =>
  obtain⟨t,rfl⟩:=rx
  cases y with
  |non=>cases ry;exact PySem.EqNone.eq_str_none (QT I q (by simp))
  |bl j=>cases ry;exact PySem.EqMixed.eq_str_bool (QT I q (by simp))
  |int j=>obtain⟨t',rfl⟩:=ry;exact PySem.EqMixed.eq_str_int (QT I q (by simp))
  |str j=>obtain⟨t',rfl⟩:=ry;exact eq_str (QT I q QcZ)
  |_=>exact absurd (show false=true from hs) Ud
 |byt i =>
  obtain⟨t,rfl⟩:=rx
  cases y with
  |byt j=>obtain⟨t',rfl⟩:=ry;exact eq_bytes (QT I q Qhc)
  |_=>exact absurd (show false=true from hs) Ud
 |_=>cases y <;> exact absurd (show false=true from hs) Ud
theorem QnS:OpR X (compareOp .NotEq) rNe:=by
 intro pins s σ H x y v u Q I rx ry h
 obtain⟨hs,q⟩:=h
 cases x with
 |non =>
  cases rx
  cases y with
  |non=>cases ry;exact PySem.EqNone.ne_none_none (QT I q (by simp))
  |bl j=>cases ry;exact PySem.EqNone.ne_none_bool (QT I q (by simp))
  |int j=>obtain⟨t',rfl⟩:=ry;exact PySem.EqNone.ne_none_int (QT I q (by simp))
  |str j=>obtain⟨t',rfl⟩:=ry;exact PySem.EqNone.ne_none_str (QT I q (by simp))
  |_=>exact absurd (show false=true from hs) Ud
 |bl i =>
  cases rx
  cases y with
  |non=>cases ry;exact PySem.EqNone.ne_bool_none (QT I q (by simp))
  |bl j=>cases ry;exact ne_bool (QT I q (T2 not Qhb))
  |str j=>obtain⟨t',rfl⟩:=ry;exact PySem.EqMixed.ne_bool_str (QT I q (by simp))
  |_=>exact absurd (show false=true from hs) Ud
 |int i =>
  obtain⟨t,rfl⟩:=rx
  cases y with
  |non=>cases ry;exact PySem.EqNone.ne_int_none (QT I q (by simp))
  |int j=>obtain⟨t',rfl⟩:=ry;exact ne_int (QT I q (T2 not QcY))
  |str j=>obtain⟨t',rfl⟩:=ry;exact PySem.EqMixed.ne_int_str (QT I q (by simp))
  |_=>exact absurd (show false=true from hs) Ud
 |str i =>
  obtain⟨t,rfl⟩:=rx
  cases y with
  |non=>cases ry;exact PySem.EqNone.ne_str_none (QT I q (by simp))
  |bl j=>cases ry;exact PySem.EqMixed.ne_str_bool (QT I q (by simp))
  |int j=>obtain⟨t',rfl⟩:=ry;exact PySem.EqMixed.ne_str_int (QT I q (by simp))
  |str j=>obtain⟨t',rfl⟩:=ry;exact ne_str (QT I q (T2 not QcZ))
  |_=>exact absurd (show false=true from hs) Ud
 |byt i =>
  obtain⟨t,rfl⟩:=rx
  cases y with
  |byt j=>obtain⟨t',rfl⟩:=ry;exact ne_bytes (QT I q (T2 not Qhc))
  |_=>exact absurd (show false=true from hs) Ud
 |_=>cases y <;> exact absurd (show false=true from hs) Ud
theorem Qmz:OpR X (compareOp .Lt) (rI0 λi j=>.bl (decide (i<j))):=opB0 λ_ _ _ _ _ _ _ q=>lt_int q
theorem QkY:OpR X (compareOp .LtE) (rI0 λi j=>.bl (decide (i<=j))):=opB0 λ_ _ _ _ _ _ _ q=>le_int q
theorem QmA:OpR X (compareOp .Gt) (rI0 λi j=>.bl (decide (j<i))):=opB0 λ_ _ _ _ _ _ _ q=>gt_int q
theorem QmB:OpR X (compareOp .GtE) (rI0 λi j=>.bl (decide (j<=i))):=opB0 λ_ _ _ _ _ _ _ q=>ge_int q
theorem Qkg:OpR X (compareOp .Is) (λx y H Q=>y=.non/\Q (.bl (decide (x=.non))) H):=by
 intro pins s σ H x y v u Q I rx ry h
 obtain⟨rfl,q⟩:=h
 cases ry
 refine is_none_gen (QT I q ?_)
 cases x <;> first
  | (cases rx;rfl)
  | (obtain⟨t,rfl⟩:=rx;rfl)
theorem Qhd:OpR X (compareOp .IsNot) (λx y H Q=>y=.non/\Q (.bl (!decide (x=.non))) H):=by
 intro pins s σ H x y v u Q I rx ry h
 obtain⟨rfl,q⟩:=h
 cases ry
 refine isnot_none_gen (QT I q ?_)
 cases x <;> first
  | (cases rx;rfl)
  | (obtain⟨t,rfl⟩:=rx;rfl)
theorem OpR.or{f:Value->Value->Sem Value}{r r':R2}(h:OpR X f r)(h':OpR X f r'):OpR X f (λx y H Q=>r x y H Q\/r' x y H Q):=by
 intro pins s σ H x y v u Q I rx ry q
 rcases q with q|q
 ·exact h pins s σ H x y v u Q I rx ry q
 ·exact h' pins s σ H x y v u Q I rx ry q
theorem YA(b:Expr){op:CmpOp}(h:op≠.In:=by decide)(h2:op≠.NotIn:=by decide):behindInMarks op b=false:=by
 have e1:(op == CmpOp.In)=false:=by cases op <;> first|rfl|exact absurd rfl h
 have e2:(op == CmpOp.NotIn)=false:=by cases op <;> first|rfl|exact absurd rfl h2
 cases b <;> simp[behindInMarks,e1,e2]
theorem QkZ{op:CmpOp}{r:R2}(ho:OpR X (compareOp op) r)(ha:PE X a ta)(hb:PE X b tb)(hm:behindInMarks op b=false):PE X (.Compare a [op] [b] pos) (tOp r ta tb):=by
 intro pins s σ H Q I h
 exact wpAny_Compare1 (binT ha hb I h λv u s2 x y H2 I2 rx ry q=>ho pins s2 σ H2 x y v u Q I2 rx ry q) hm
noncomputable def QnT(t:TE):TT:=λσ H Q=>t σ H λx H'=>∃k,x=.bl k/\Q k H'
theorem Qk0{op:CmpOp}{r:R2}(ho:OpR X (compareOp op) r)(ha:PE X a ta)(hb:PE X b tb)(hm:behindInMarks op b=false):PT X (.Compare a [op] [b] pos) (QnT (tOp r ta tb)):=by
 intro pins s σ H Q I h
 refine wpAny_isTrue_Compare1 (thn (ha pins s σ H _ I h) λv s1 ⟨x,H1,I1,r1,q1⟩=>thn (hb pins s1 σ H1 _ I1 q1) λu s2 ⟨y,H2,I2,r2,q2⟩ =>
  thn (ho pins s2 σ H2 x y v u _ I2 r1 r2 q2) λc s3 ⟨z,H3,I3,r3,k,e,q3⟩=>?_) hm
 subst e
 cases r3
 exact U9 ⟨H3,I3,q3⟩
noncomputable def Qkh(r r':R2)(ta tb tc:TE):TE:=λσ H Q=>ta σ H λx H1=>tb σ H1 λy H2=>r x y H2 λz H3=>∃k,z=.bl k /\
 (if k=true then tc σ H3 λw' H4=>r' y w' H4 Q else Q (.bl false) H3)
theorem Qi0{op op':CmpOp}{r r':R2}(ho:OpR X (compareOp op) r)(ho':OpR X (compareOp op') r')(ha:PE X a ta)(hb:PE X b tb)(hc:PE X c tc)(hm:lastMarks [op,op'] [b,c]=false:=by with_unfolding_all rfl):PE X (.Compare a [op,op'] [b,c] pos) (Qkh r r' ta tb tc):=by
 intro pins s σ H Q I h
 refine Compare_chain (thn (ha pins s σ H _ I h) λv s1 ⟨x,H1,I1,r1,q1⟩=>chain_link (thn (hb pins s1 σ H1 _ I1 q1) λu s2 ⟨y,H2,I2,r2,q2⟩ =>
  thn (ho pins s2 σ H2 x y v u _ I2 r1 r2 q2) λd s3 ⟨z,H3,I3,r3,k,e,q3⟩=>?_)) hm
 subst e
 cases r3
 refine U9 ?_
 cases k with
 |false=>exact ite_ff ⟨.bl false,H3,I3,rfl,q3⟩
 |true=>exact ite_tt (chain_last (thn (hc pins s3 σ H3 _ I3 q3) λw' s4 ⟨z',H4,I4,r4,q4⟩=>ho' pins s4 σ H4 y z' u w' Q I4 r2 r4 q4))
theorem Qbn:(sizeLine:Nat)<2^63:=by rw[Re];decide
theorem Qk1{x:V}{us:List Value}(r:Vals [x] us):∃u,us=[u]/\RelV x u:=by
 cases r with
 |cons r1 r2=>cases r2;exact⟨_,rfl,r1⟩
theorem QmC{x y:V}{us:List Value}(r:Vals [x,y] us):∃u w',us=[u,w']/\RelV x u/\RelV y w':=by
 cases r with
 |cons r1 r2 =>
  cases r2 with
  |cons r3 r4=>cases r4;exact⟨_,_,rfl,r1,r3⟩
theorem Qhe(hc:X.calm=true):CallR X (.builtin "max") (λxs H Q=>∃i j,xs=[.int i,.int j]/\Q (.int (if j > i then j else i)) H):=by
 intro pins s σ H xs us Q I r h
 obtain⟨i,j,rfl,q⟩:=h
 obtain⟨u,w',rfl,⟨t,rfl⟩,⟨t',rfl⟩⟩:=QmC r
 refine max_two_ints (I.ok.hd hc) λh' tk k=>⟨_,H,I.kept k,?_,q⟩
 by_cases hj:j > i
 ·rw[Uc hj,Uc hj];exact⟨_,rfl⟩
 ·rw[Uh hj,Uh hj];exact⟨_,rfl⟩
theorem Qhf(hc:X.calm=true):CallR X (.builtin "min") (λxs H Q=>∃i j,xs=[.int i,.int j]/\Q (.int (if j<i then j else i)) H):=by
 intro pins s σ H xs us Q I r h
 obtain⟨i,j,rfl,q⟩:=h
 obtain⟨u,w',rfl,⟨t,rfl⟩,⟨t',rfl⟩⟩:=QmC r
 refine min_two_ints (I.ok.hd hc) λh' tk k=>⟨_,H,I.kept k,?_,q⟩
 by_cases hj:j<i
 ·rw[Uc hj,Uc hj];exact⟨_,rfl⟩
 ·rw[Uh hj,Uh hj];exact⟨_,rfl⟩
end
end
section
structure ObjM(h:Heap)(x dx C:Addr)(mA:Str->Option Value):Prop where
 obj:h.get? x=some (instObj C dx)
 ns:h.Ns1 dx mA
 ne:dx≠x
theorem Qhg{h:Heap}{dx:Addr}{mA:Str->Option Value}(n:h.Ns1 dx mA):∃od,h.get? dx=some od/\∀name,lookIn name od=some (mA name):=by
 obtain⟨o,es,ep,ho,hd,hk,_,hm⟩:=n
 refine⟨o,ho,λname=>?_⟩
 have e:=hm name
 unfold nsFind findBy at e
 rw[<-Array.find?_toList]at e
 unfold lookIn
 rw[hd]
 dsimp only
 split
 ·rename_i y q
  rw[q]at e
  exact T2 some e
 ·rename_i q
  rw[q]at e
  have a:es.toList.any (·.refKey)=false:=by
   rw[List.any_eq_false]
   intro y hy
   obtain⟨z,t,hkey⟩:=hk y (Array.mem_toList_iff.mp hy)
   simp[DictEntry.refKey,hkey]
  have a':¬es.toList.any (·.refKey)=true:=by rw[a];exact Ud
  rw[Uh a']
  exact T2 some e
theorem ObjM.look{h:Heap}{x dx C:Addr}{mA:Str->Option Value}(I:ObjM h x dx C mA):∃od,PySem.W.InstAt h x (instObj C dx) C (some od)/\∀name,lookIn name od=some (mA name) :=
 let ⟨od,ho,hl⟩:=Qhg I.ns
 ⟨od,⟨I.obj,rfl,rfl,ho⟩,hl⟩
section
variable{prog:Program}{w:World}{A:Around}{E:Value->Shared->Prop}{s:Shared}{K:Frag}{x dx C f:Addr}{mA:Str->Option Value}{name:Str}{v:Value}
theorem Qk2{expr:Bool}{Q:Value->Shared->Prop}(X:K.In s.heap)(I:ObjM s.heap x dx C mA)(hg:plainGet K C name=true)(hh:hasDictIn K C=true)(ha:findIn K (.ref C) name=some none)(hv:mA name=some v)(hv':handedIn v=true)(h:Q v {s with toks:=s.toks+1}):
  wpAny (model prog w) A (getAttr (.ref x) name expr) Q E s:=by
 obtain⟨od,J,hl⟩:=I.look
 exact get_value X J (RB hg).1 (findObj_own hh ha rfl (by rw[hl,hv])) hv' h
theorem Qi1{pl:Sem Bool}{Q:Value×List Value->Shared->Prop}(X:K.In s.heap)(I:ObjM s.heap x dx C mA)(hg:plainGet K C name=true)(hf:findIn K (.ref C) name=some (some (.ref f)))(ht:isFn K (.ref f)=true)(hv:mA name=none)(h:Q (.ref f,[.ref x]) s):
  wpAny (model prog w) A (getMethod (.ref x) name pl) Q E s:=by
 obtain⟨od,J,hl⟩:=I.look
 exact method_fn X J (RB hg).1 (RB hg).2 hf (Td.mp ht) (by show(lookIn name od).map (·.isSome)=some false;rw[hl,hv];rfl) h
theorem Qk3{ns:List Str}{Q:Unit->Shared->Prop}(X:K.In s.heap)(I:ObjM s.heap x dx C mA)(hs:findIn K (.ref C) "__setattr__" = some (some (.builtin "object.__setattr__")))(hp:plainOver K C=true)(ht:takerIn K C name=some none)(hh:hasDictIn K C=true)(hw:PySem.Within mA ns)(hsz:ns.length<=sizeLine)(h:∀h',ObjM h' x dx C (λy=>if y=name then some v else mA y)->Heap.SameBut dx s.heap h'->Q () {s with heap:=h',toks:=s.toks+2}):
  wpAny (model prog w) A (setAttr (.ref x) name v) Q E s:=by
 obtain⟨od,J,hl⟩:=I.look
 refine set_plain X J hs (osa_open (s:={s with toks:=s.toks+1}) (r:=none) X J hp ht λb=>?_)
 obtain⟨cd,hc,hd'⟩:=any_some hh
 have hx:s.heap.get? x=some ⟨.ref C,some dx,.plain,#[]⟩:=I.obj
 refine Ua (Uj (Ua (Ua (wpAny_loadPart hx (Ua (Looks.here (s:={s with toks:=s.toks+1}) (looks_clsIn X hc) ?_))))))
 rw[hd']
 refine Uj (a:=some dx) (Ua (Uj (Ua ?_)))
 refine wpAny_nsSet1 (s:={s with toks:=s.toks+1}) I.ns λh' hn2 hs2=>?_
 obtain⟨oD,esD,epD,hoD,hdD,hcD⟩:=hn2.count (PySem.Within.cons name v hw)
 refine Ua (wpAny_lookBehind hoD (by rw[hdD];exact pastItsLine_dict (Ux hcD (by rw[UN];omega))) ?_)
 exact Uj (h _ ⟨(hs2.2 _ (Ne.symm I.ne)).trans I.obj,hn2,I.ne⟩ hs2)
theorem Qi2{R:Result->Shared->Prop}{vs:List Value}{kw:List (Str×Value)}(X:K.In s.heap)(hm:makesIn K C=true)(hi:findIn K (.ref C) "__init__" = some (some (.ref f)))(hf:typeIn K (.ref f)=some (.type "function"))(h:codeAny (model prog w) (A.under (.builtin "type.__call__" ⟨.ref C::vs,kw⟩)) (.call (.ref f) ⟨.ref (s.heap.objs.size+1)::vs,kw⟩) (InitBack (s.heap.objs.size+1) R)
   {s with heap:=(s.heap.push emptyDict).push (instObj C s.heap.objs.size)}):
  codeAny (model prog w) A (.call (.ref C) ⟨vs,kw⟩) R s:=by
 obtain⟨hh,g,d,t,os⟩:=s
 exact make_core (makes_of X hm) (looks_findIn X hi) (λself=>bind_fn X self hf) (.inl rfl) h
end
noncomputable def putF(f:Str)(v:V):List (Str×V)->List (Str×V)
 |[]=>[(f,v)]
 | (g,x)::r=>if g=f then (g,v)::r else (g,x)::putF f v r
theorem QbR(f g:Str)(v:V):∀fs:List (Str×V),(putF f v fs).lookup g=if g=f then some v else fs.lookup g
 |[]=>by
  show List.lookup g [(f,v)]=_
  by_cases h:g=f
  ·have hb:(g == f)=true:=Td.mpr h
   simp only[List.lookup,hb,Uc h]
  ·have hb:(g == f)=false:=UT.mpr h
   simp only[List.lookup,hb,Uh h]
 | (k,x)::r=>by
  have ih:=QbR f g v r
  rw[show putF f v ((k,x)::r)=(if k=f then (k,v)::r else (k,x)::putF f v r) from rfl]
  by_cases hk:k=f
  ·rw[Uc hk]
   by_cases h:g=k
   ·have hb:(g == k)=true:=Td.mpr h
    simp only[List.lookup,hb,Uc (h.trans hk)]
   ·have hb:(g == k)=false:=UT.mpr h
    simp only[List.lookup,hb,Uh (λe:g=f=>h (e.trans hk.symm))]
  ·rw[Uh hk]
   by_cases h:g=k
   ·have hb:(g == k)=true:=Td.mpr h
    simp only[List.lookup,hb,Uh (λe:g=f=>hk (h.symm.trans e))]
   ·have hb:(g == k)=false:=UT.mpr h
    simp only[List.lookup,hb]
    exact ih
theorem QbS(f:Str)(v:V):∀fs:List (Str×V),f∈(putF f v fs).map (·.1)/\∀g,g∈fs.map (·.1)->g∈(putF f v fs).map (·.1)
 |[]=>⟨by simp[putF],λg h=>by simp at h⟩
 | (k,x)::r=>by
  obtain⟨i1,i2⟩:=QbS f v r
  rw[show putF f v ((k,x)::r)=(if k=f then (k,v)::r else (k,x)::putF f v r) from rfl]
  by_cases hk:k=f
  ·rw[Uc hk]
   subst hk
   exact⟨by simp,λg h=>by simpa using h⟩
  ·rw[Uh hk]
   refine⟨?_,λg h=>?_⟩
   ·rw[UH]
    exact Ut _ i1
   ·rw[UH]at h ⊢
    rcases Uu.mp h with e|e
    ·exact Uu.mpr (.inl e)
    ·exact Ut _ (i2 g e)
theorem QbT(f:Str)(v:V):∀fs:List (Str×V),(putF f v fs).length<=fs.length+1
 |[]=>by simp[putF]
 | (k,x)::r=>by
  have ih:=QbT f v r
  rw[show putF f v ((k,x)::r)=(if k=f then (k,v)::r else (k,x)::putF f v r) from rfl]
  by_cases hk:k=f
  ·rw[Uc hk,UN,UN];omega
  ·rw[Uh hk,UN,UN];omega
theorem RelO.some_of{v:V}{o:Option Value}(r:RelO (some v) o):∃u,o=some u/\RelV v u:=by
 cases o with
 |none=>exact(show False from r).elim
 |some u=>exact⟨u,rfl,r⟩
theorem RelO.none_of{o:Option Value}(r:RelO none o):o=none:=by
 cases o with
 |none=>rfl
 |some u=>exact(show False from r).elim
theorem Qhh{v:V}{u:Value}(r:RelV v u):handedIn u=true:=by
 cases v with
 |non=>cases (show u=Value.none from r);rfl
 |bl b=>cases (show u=Value.bool b from r);rfl
 |int i=>obtain⟨t,e⟩:=(show ∃t,u=Value.int i t from r);cases e;rfl
 |str x=>obtain⟨t,e⟩:=(show ∃t,u=Value.str x t from r);cases e;rfl
 |byt b=>obtain⟨t,e⟩:=(show ∃t,u=Value.bytes b t from r);cases e;rfl
 |flt b=>obtain⟨t,e⟩:=(show ∃t,u=Value.float b t from r);cases e;rfl
 |ref a=>cases (show u=Value.ref a from r);rfl
 |ty n=>cases (show u=Value.type n from r);rfl
section
variable{P:Program}{w:World}{H H':Hp}{h h':Heap}{a C dx:Addr}{fs fs':List (Str×V)}
theorem Qc0(hok:HOk P w H h)(e:H a=some (.ins C dx fs)):∃mA,ObjM h a dx C mA/\(∀f,RelO (fs.lookup f) (mA f))/\PySem.Within mA (fs.map (·.1))/\fs.length<=1000/\H dx=some (.own a):=by
 obtain⟨d,z,ne,ob,mA,n,r,q⟩:=(show ObjOk P w H h a (.ins C dx fs) from hok a _ e)
 exact⟨mA,⟨ob,n,ne⟩,r,q,z,d⟩
end
structure Cls(K:Frag)(C:Addr):Prop where
 pg:plainGet K C Str.empty=true
 hd:hasDictIn K C=true
 po:plainOver K C=true
 sa:findIn K (.ref C) "__setattr__" = some (some (.builtin "object.__setattr__"))
theorem Cls.get{K:Frag}{C:Addr}(c:Cls K C)(f:Str):plainGet K C f=true:=c.pg
def NoAttr(K:Frag)(C:Addr)(f:Str):Prop:=findIn K (.ref C) f=some none
theorem NoAttr.taker{K:Frag}{C:Addr}{f:Str}(n:NoAttr K C f):takerIn K C f=some none:=by
 unfold takerIn
 rw[show findIn K (.ref C) f=some none from n]
 rfl
structure Meth(K:Frag)(C:Addr)(m:Str)(f:Addr):Prop where
 at_:findIn K (.ref C) m=some (some (.ref f))
 fn:isFn K (.ref f)=true
 kp:keepIn K (.ref f)=true
section
variable{X:Cx}{pins:List (Addr×Obj)}{σ:St}{H:Hp}{s:Shared}{a C dx:Addr}{fs:List (Str×V)}{f:Str}{v:V}{A:Around}{E:Value->Shared->Prop}
theorem Qgn{b:Bool}{Q:Value->Shared->Prop}(I:Inv X pins σ H s)(e:H a=some (.ins C dx fs))(c:Cls X.K C)(n:NoAttr X.K C f)(l:fs.lookup f=some v)(h:∀u s',Inv X pins σ H s'->RelV v u->Q u s'):wpAny (model X.prog X.w) A (getAttr (.ref a) f b) Q E s:=by
 obtain⟨mA,O,r,_,_,_⟩:=Qc0 I.hok e
 obtain⟨u,hu,ru⟩:=RelO.some_of (v:=v) (o:=mA f) (by rw[<-l];exact r f)
 exact Qk2 I.kIn O (c.get f) c.hd n hu (Qhh ru) (h u _ (I.tok _) ru)
theorem QcN{m:Str}{g:Addr}{pl:Sem Bool}{Q:Value×List Value->Shared->Prop}(I:Inv X pins σ H s)(e:H a=some (.ins C dx fs))(c:Cls X.K C)(k:Meth X.K C m g)(l:fs.lookup m=none)(h:Q (.ref g,[.ref a]) s):wpAny (model X.prog X.w) A (getMethod (.ref a) m pl) Q E s:=by
 obtain⟨mA,O,r,_,_,_⟩:=Qc0 I.hok e
 have hn:mA m=none:=RelO.none_of (by rw[<-l];exact r m)
 exact Qi1 I.kIn O (c.get m) k.at_ k.fn hn h
theorem Qgo{y:V}{u:Value}{Q:Unit->Shared->Prop}(I:Inv X pins σ H s)(e:H a=some (.ins C dx fs))(c:Cls X.K C)(n:NoAttr X.K C f)(hl:fs.length<1000)(ry:RelV y u)(h:∀s',Inv X pins σ (upd H a (.ins C dx (putF f y fs))) s'->Q () s'):wpAny (model X.prog X.w) A (setAttr (.ref a) f u) Q E s:=by
 obtain⟨mA,O,r,wi,_,ho⟩:=Qc0 I.hok e
 have hz:(fs.map (·.1)).length<=sizeLine:=by rw[Um,Re];omega
 refine Qk3 I.kIn O c.sa c.po n.taker c.hd wi hz λh' O' sb=>h _ ?_
 have hd:∃o,h'.get? dx=some o:=let ⟨o,_,_,e',_⟩:=O'.ns;⟨o,e'⟩
 refine I.write (x:=a) (e:=dx) (by rw[e];exact True.intro) (.inr ho) (λb q hb z=>(sb.2 b hb).trans z) hd ?_
 refine⟨by rw[Qs O.ne];exact ho,?_,O.ne,O'.obj,_,O'.ns,λg=>?_,λg hg=>?_⟩
 ·have:=QbT f y fs;omega
 ·show RelO ((putF f y fs).lookup g) (if g=f then some u else mA g)
  rw[QbR]
  by_cases q:g=f
  ·rw[Uc q,Uc q];exact ry
  ·rw[Uh q,Uh q];exact r g
 ·by_cases q:g=f
  ·rw[q];exact(QbS f y fs).1
  ·refine(QbS f y fs).2 g (wi g λz=>hg ?_)
   show(if g=f then some u else mA g)=none
   rw[Uh q];exact z
theorem Inv.made(I:Inv X pins σ H s):Inv X pins σ (upd (upd H s.heap.objs.size (.own (s.heap.objs.size+1))) (s.heap.objs.size+1) (.ins C s.heap.objs.size []))
  {s with heap:=(s.heap.push emptyDict).push (instObj C s.heap.objs.size)}:=by
 have e1:(s.heap.push emptyDict).get? s.heap.objs.size=some emptyDict:=Ul s.heap rfl
 have e2:((s.heap.push emptyDict).push (instObj C s.heap.objs.size)).get? (s.heap.objs.size+1)=some (instObj C s.heap.objs.size):=by
  have:=Ul (s.heap.push emptyDict) (o:=instObj C s.heap.objs.size) rfl
  rwa[Tq]at this
 have e3:(s.heap.push emptyDict).Ns s.heap.objs.size (λ_=>none):=⟨emptyDict,#[],_,e1,rfl,(λe he=>absurd he (by simp)),λ_=>rfl⟩
 have I1:=I.laid (a:=s.heap.objs.size) (o:=.own (s.heap.objs.size+1)) (h':=s.heap.push emptyDict) (t':=s.toks) (λb u q=>Ub _ q) (Ug _) ⟨_,e1⟩
 refine I1.laid (a:=s.heap.objs.size+1) (o:=.ins C s.heap.objs.size []) (t':=s.toks) (λb u q=>Ub _ q) (Nat.le_of_eq (Tq _ _)) ?_
 have ne:s.heap.objs.size≠s.heap.objs.size+1:=UE (Tl _)
 refine⟨by rw[Qs ne,Qq],TX _,ne,e2,λ_=>none,(Heap.Ns1.of_empty e3).at λo q=>Ub _ q,λ_=>True.intro,λy hy=>absurd rfl hy⟩
theorem Qk4{prog:Program}{w:World}{env:Env}{e:Expr}{f:Str}{pos:Pos}{s:Shared}{Q:Value->Shared->Prop}(hb:attributeBase e f env (eval e env)=eval e env)(h:wpAny (model prog w) A (eval e env) (λo s₁=>wpAny (model prog w) A (getAttr o f true) Q E s₁) E s):wpAny (model prog w) A (eval (.Attribute e f pos) env) Q E s :=
 Attribute_any_ h (by rw[arm_eval_Attribute,hb])
end
noncomputable def tFld(K:Frag)(ta:TE)(f:Str):TE:=λσ H Q=>ta σ H λx H1=>∃a C dx fs v,x=.ref a/\H1 a=some (.ins C dx fs)/\Cls K C/\NoAttr K C f/\fs.lookup f=some v/\Q v H1
noncomputable def sFld(K:Frag)(ta tv:TE)(f:Str):TS:=λD σ H=>tv σ H λy H1=>ta σ H1 λx H2=>∃a C dx fs,x=.ref a/\H2 a=some (.ins C dx fs)/\Cls K C/\NoAttr K C f/\fs.length<1000 /\
 D.nx σ (upd H2 a (.ins C dx (putF f y fs)))
section
variable{X:Cx}{o e value:Expr}{f:Str}{pos pos' tpos:Pos}{ta tv:TE}
theorem QmD(he:PE X e ta)(hb:attributeBase e f X.env (eval e X.env)=eval e X.env):PE X (.Attribute e f pos) (tFld X.K ta f):=by
 intro pins s σ H Q I h
 refine Qk4 hb (thn (he pins s σ H _ I h) λu s1 ⟨x,H1,I1,rx,a,C,dx,fs,v,ex,ea,c,n,l,q⟩=>?_)
 subst ex
 obtain rfl:u=Value.ref a:=rx
 exact Qgn I1 ea c n l λu' s2 I2 ru=>⟨v,H1,I2,ru,q⟩
theorem QmE(ha:PE X o ta)(hv:PE X value tv)(hs:swapsWith value (some (.Attribute o f pos')) pos.line X.env=pure false):PS X (.Assign [.Attribute o f pos'] value pos) (sFld X.K ta tv f):=by
 intro pins s σ H D I h
 refine plainObj_wpAny_Assign_Attribute (thn (hv pins s σ H _ I h) λu s1 ⟨y,H1,I1,ry,q⟩=>thn (ha pins s1 σ H1 _ I1 q) λov s2 ⟨x,H2,I2,rx,a,C,dx,fs,ex,ea,c,n,l,q2⟩=>?_) hs
 subst ex
 obtain rfl:ov=Value.ref a:=rx
 exact Qgo I2 ea c n l ry λs3 I3=>⟨σ,_,I3,q2⟩
end
section
variable{X:Cx}{pins:List (Addr×Obj)}{σ:St}{H:Hp}{s:Shared}{A:Around}{E:Value->Shared->Prop}{Q:Value->Shared->Prop}{c:Value}{b:Bool}
inductive TyOf(K:Frag)(H:Hp):V->Value->Prop where
 |non:TyOf K H .non (.type "NoneType")
 |bl (x:Bool):TyOf K H (.bl x) (.type "bool")
 |int (i:Int):TyOf K H (.int i) (.type "int")
 |str (x:Str):TyOf K H (.str x) (.type "str")
 |flt (x:UInt64):TyOf K H (.flt x) (.type "float")
 |lst {a:Addr} {xs:List V} (e:H a=some (.lst xs)):TyOf K H (.ref a) (.type "list")
 |frz {a:Addr} {o:Obj} {xs:List V} (e:H a=some (.frz o (.lst xs))):TyOf K H (.ref a) (.type "list")
 |tup {a:Addr} {xs:List V} (e:H a=some (.tup xs)):TyOf K H (.ref a) (.type "tuple")
 |dK {a:Addr} {kvs:List (Key×V)} (e:H a=some (.dK kvs)):TyOf K H (.ref a) (.type "dict")
 |dT {a:Addr} {kvs:List (List Key×V)} (e:H a=some (.dT kvs)):TyOf K H (.ref a) (.type "dict")
 |ins {a C dx:Addr} {fs:List (Str×V)} (e:H a=some (.ins C dx fs)) (cl:Cls K C) (ha:findIn K (.ref C) "__class__" = some (some (.builtin "object.__class__")))
   (hn:specialIn K (.builtin "object.__class__") "__get__" = some (some (.builtin "getset_descriptor.__get__"))) (htk:takesIn K (.builtin "object.__class__")=some true)
   (hm:mroIn K C (.type "object")=some true):TyOf K H (.ref a) (.ref C)
theorem Jb{x:V}{u t:Value}(I:Inv X pins σ H s)(rx:RelV x u)(ty:TyOf X.K H x t)(e:kitOne X.K t c=some b)(h:∀tk,Q (.bool b) {s with toks:=tk}):
  wpAny (model X.prog X.w) A (call (.builtin "isinstance") [u,c]) Q E s:=by
 cases ty with
 |non=>cases (show u=Value.none from rx);exact UU kitx_none I.kIn True.intro e (λz=>nomatch z) h
 |bl y=>cases (show u=Value.bool y from rx);exact UU kitx_bool I.kIn True.intro e (λz=>nomatch z) h
 |int i=>obtain⟨t,q⟩:=(show ∃t,u=Value.int i t from rx);cases q;exact UU kitx_int I.kIn True.intro e (λz=>nomatch z) h
 |str y=>obtain⟨t,q⟩:=(show ∃t,u=Value.str y t from rx);cases q;exact UU kitx_str I.kIn True.intro e (λz=>nomatch z) h
 |flt y=>obtain⟨t,q⟩:=(show ∃t,u=Value.float y t from rx);cases q;exact UU kitx_float I.kIn True.intro e (λz=>nomatch z) h
 |@lst a xs ea =>
  cases (show u=Value.ref a from rx)
  obtain⟨_,_,n,_,h1⟩:=(show ObjOk X.prog X.w H s.heap a (.lst xs) from I.hok a _ ea)
  exact UU RS I.kIn ⟨_,h1,rfl⟩ e (λz=>nomatch z) h
 |@frz a ob xs ea =>
  cases (show u=Value.ref a from rx)
  obtain⟨_,_,_,n,_,h1⟩:=(show ObjOk X.prog X.w H s.heap a (.frz ob (.lst xs)) from I.hok a _ ea)
  exact UU RS I.kIn ⟨_,h1,rfl⟩ e (λz=>nomatch z) h
 |@tup a xs ea =>
  cases (show u=Value.ref a from rx)
  obtain⟨_,_,_,p⟩:=(show ObjOk X.prog X.w H s.heap a (.tup xs) from I.hok a _ ea)
  obtain⟨o,h1,h2,_⟩:=p
  exact UU kitx_tuple I.kIn ⟨o,h1,h2⟩ e (λz=>nomatch z) h
 |@dK a kvs ea =>
  cases (show u=Value.ref a from rx)
  obtain⟨_,_,vs,_,p⟩:=(show ObjOk X.prog X.w H s.heap a (.dK kvs) from I.hok a _ ea)
  obtain⟨o,es,ep,h1,h2,_⟩:=p
  exact UU kitx_dict I.kIn ⟨o,h1,h2.1⟩ e (λz=>nomatch z) h
 |@dT a kvs ea =>
  cases (show u=Value.ref a from rx)
  obtain⟨_,_,xs,_,o,es,ep,h1,h2,_⟩:=(show ObjOk X.prog X.w H s.heap a (.dT kvs) from I.hok a _ ea)
  exact UU kitx_dict I.kIn ⟨o,h1,h2.1⟩ e (λz=>nomatch z) h
 |@ins a C dx fs ea cl ha hn htk hm =>
  cases (show u=Value.ref a from rx)
  obtain⟨mA,O,_⟩:=Qc0 I.hok ea
  obtain⟨od,J,_⟩:=O.look
  exact UU (kitx_own (cl.get _) cl.hd ha hn htk hm) I.kIn J e (λz=>nomatch z) h
end
end
section
structure Room(k:Nat)(A:Around):Prop where
 hd:A.handled=none
 dp:A.depth+3*k+5<recursionLimit
 un:A.units+16*k+200<cLine
theorem Room.mono{j k:Nat}{A:Around}(r:Room k A)(h:j<=k):Room j A:=⟨r.hd,by have:=r.dp;omega,by have:=r.un;omega⟩
theorem Room.deeper{k:Nat}{A:Around}(r:Room (k+1) A)(env:Env):Room k (A.deeper env) :=
 ⟨r.hd,by have:=r.dp;show A.depth+1+3*k+5<_;omega,by have:=r.un;show A.units+3+16*k+200<_;omega⟩
theorem Room.in1{k:Nat}{A:Around}(r:Room (k+1) A):Room k A.in1 :=
 ⟨r.hd,by have:=r.dp;show A.depth+3*k+5<_;omega,by have:=r.un;show A.units+1+16*k+200<_;omega⟩
theorem Qgp{A:Around}{C:Addr}{us:List Value}{kw:List (Str×Value)}:(A.under (.builtin "type.__call__" ⟨.ref C::us,kw⟩)).depth=A.depth+1:=by
 first|rfl|simp[Around.under,Code.weight,Code.isCreation,Code.isGuard,Code.isCaller,Code.frames,Code.isFrame,guardIds]
theorem Qgq{A:Around}{C:Addr}{us:List Value}{kw:List (Str×Value)}:(A.under (.builtin "type.__call__" ⟨.ref C::us,kw⟩)).units=A.units+1:=by
 first|rfl|simp[Around.under,Code.cUnits,Code.frames,Code.isFrame]
theorem Room.make{k:Nat}{A:Around}(r:Room (k+1) A)(C:Addr)(us:List Value)(kw:List (Str×Value)):Room k (A.under (.builtin "type.__call__" ⟨.ref C::us,kw⟩)) :=
 ⟨r.hd,by have:=r.dp;rw[Qgp];omega,by have:=r.un;rw[Qgq];omega⟩
theorem Room.depth{k:Nat}{A:Around}(r:Room k A):A.depth<recursionLimit:=by have:=r.dp;omega
theorem Room.units{k:Nat}{A:Around}(r:Room k A):A.units+64<cLine:=by have:=r.un;omega
noncomputable def tNil:TA:=λ_ H Q=>Q [] H
noncomputable def QnU(ta:TE)(tr:TA):TA:=λσ H Q=>ta σ H λx H1=>tr σ H1 λxs H2=>Q (x::xs) H2
section
variable{X:Cx}{e:Expr}{es:List Expr}{te:TE}{t:TA}{pos:Pos}
theorem Qki:PA X [] tNil:=λ_ _ _ _ H Q I h=>Calls.spliced_nil ⟨[],H,I,.nil,h⟩
theorem QeI(ha:PE X e te)(hr:PA X es t)(hs:starEach (e::es) X.env=(false,eval e X.env)::starEach es X.env:=by rfl):PA X (e::es) (QnU te t):=by
 intro pos pins s σ H Q I h
 rw[hs]
 show wpAny _ _ (spliced ((false,eval e X.env)::backTo pos (starEach es X.env))) _ _ s
 refine Calls.spliced_cons (thn (ha pins s σ H _ I h) λu s1 ⟨x,H1,I1,r1,q1⟩=>?_)
 exact thn (hr pos pins s1 σ H1 _ I1 q1) λus s2 ⟨xs,H2,I2,r2,q2⟩=>⟨x::xs,H2,I2,.cons r1 r2,q2⟩
noncomputable def tTup(t:TA):TE:=λσ H Q=>t σ H λxs H1=>xs.length<=sizeLine/\∀p,H1 p=none->Q (.ref p) (upd H1 p (.tup xs))
noncomputable def tLst(t:TA):TE:=λσ H Q=>t σ H λxs H1=>xs.length<=sizeLine/\∀p,H1 p=none->Q (.ref p) (upd H1 p (.lst xs))
theorem QmF{x1}(h:PA X es t):PE X (.Tuple es x1 pos) (tTup t):=by
 intro pins s σ H Q I hq
 refine wpAny_Tuple_spliced (thn (h pos pins s σ H _ I hq) λus s1 ⟨xs,H1,I1,r,z,q⟩=>⟨by rw[<-r.length];exact z,?_⟩)
 have hf:H1 s1.heap.objs.size=none:=I1.hok.fresh (Ug _)
 refine⟨.ref s1.heap.objs.size,upd H1 s1.heap.objs.size (.tup xs),I1.laid (t':=s1.toks) (λb u e=>Ub _ e) (Ug _) ?_,rfl,q _ hf⟩
 exact⟨z,us,r,⟨_,Ul _ rfl,rfl,_,rfl⟩⟩
theorem QmG(h:PA X es t):PE X (.List es pos) (tLst t):=by
 intro pins s σ H Q I hq
 refine wpAny_List_spliced (thn (h pos pins s σ H _ I hq) λus s1 ⟨xs,H1,I1,r,z,q⟩=>⟨by rw[<-r.length];exact z,?_⟩)
 have hf:H1 s1.heap.objs.size=none:=I1.hok.fresh (Ug _)
 refine⟨.ref s1.heap.objs.size,upd H1 s1.heap.objs.size (.lst xs),I1.laid (t':=s1.toks) (λb u e=>Ub _ e) (Ug _) ?_,rfl,q _ hf⟩
 exact⟨z,us,0,r,Ul _ rfl⟩
end
noncomputable abbrev Sp:=List V->Hp->VK->XK->Prop
noncomputable abbrev CXT:=List Env->Hp->Shared->XK->Value->Shared->Prop
structure Env0(P:Program)(w:World)(K:Frag)(mg:Str->Option Value)(base:Heap)(A:Around)(outer:List Env)(s:Shared)(H:Hp):Prop where
 frames:A.frames=some outer
 mod:Mod K mg base
 bs:∀b o,base.get? b=some o->s.heap.get? b=some o/\H b=none
 bsz:base.objs.size<=s.heap.objs.size
 funs:s.heap.FunFrames base outer
 frf:∀b∈frs outer,H b=none
 hok:HOk P w H s.heap
 bare:AllBare s.gens
noncomputable def CE(outer:List Env)(P:Program)(w:World)(H:Hp)(s:Shared)(Q:VK)(u:Value)(s':Shared):Prop :=
 ∃v H',s'.os=s.os/\AllBare s'.gens/\Un (frs outer) [] H H' s.heap s'.heap/\HOk P w H' s'.heap/\RelV v u/\Q v H'
noncomputable def CR(CX:CXT)(outer:List Env)(P:Program)(w:World)(H:Hp)(s:Shared)(Q:VK)(E:XK)(r:Result)(s':Shared):Prop :=
 match r with
 |.ok (.ret u)=>CE outer P w H s Q u s'
 |.ok _=>False
 |.error e=>CX outer H s E e s'
structure FnOk(P:Program)(w:World)(K:Frag)(mg:Str->Option Value)(base:Heap)(CX:CXT)(k:Nat)(f:Addr)(fd:FuncData)(ps:List Str)(sp:Sp):Prop where
 len:∀vs H Q E,sp vs H Q E->vs.length=ps.length
 run:∀(A:Around)(outer:List Env)(s:Shared)(H:Hp)(args:Args)(us:List Value)(vs:List V)(Q:VK)(E:XK),Room k A->Env0 P w K mg base A outer s H->BindsTo s fd args (ps.zip us)->Vals vs us->sp vs H Q E ->
  codeAny (model P w) A (.call (.ref f) args) (CR CX outer P w H s Q E) s
theorem FnOk.mono{P:Program}{w:World}{K:Frag}{mg:Str->Option Value}{base:Heap}{CX:CXT}{j k:Nat}{f:Addr}{fd:FuncData}{ps:List Str}{sp:Sp}(F:FnOk P w K mg base CX j f fd ps sp)(h:j<=k):
  FnOk P w K mg base CX k f fd ps sp:=⟨F.len,λA outer s H args us vs Q E hr=>F.run A outer s H args us vs Q E (hr.mono h)⟩
theorem FnOk.imp{P:Program}{w:World}{K:Frag}{mg:Str->Option Value}{base:Heap}{CX:CXT}{k:Nat}{f:Addr}{fd:FuncData}{ps:List Str}{sp sp':Sp}(F:FnOk P w K mg base CX k f fd ps sp)(h:∀vs H Q E,sp' vs H Q E->sp vs H Q E):FnOk P w K mg base CX k f fd ps sp' :=
 ⟨λvs H Q E q=>F.len vs H Q E (h _ _ _ _ q),λA outer s H args us vs Q E hr he hb hv hs=>F.run A outer s H args us vs Q E hr he hb hv (h _ _ _ _ hs)⟩
theorem Env0.make{P:Program}{w:World}{K:Frag}{mg:Str->Option Value}{base:Heap}{A:Around}{outer:List Env}{s:Shared}{H:Hp}(e:Env0 P w K mg base A outer s H)(C:Addr)(us:List Value)(kw:List (Str×Value)):
  Env0 P w K mg base (A.under (.builtin "type.__call__" ⟨.ref C::us,kw⟩)) outer s H:=⟨by first|exact e.frames|(simpa[Around.under,Code.envs,Code.isFrame,pushEnvs]using e.frames),e.mod,e.bs,e.bsz,e.funs,e.frf,e.hok,e.bare⟩
theorem Env0.in1{P:Program}{w:World}{K:Frag}{mg:Str->Option Value}{base:Heap}{A:Around}{outer:List Env}{s:Shared}{H:Hp}(e:Env0 P w K mg base A outer s H):
  Env0 P w K mg base A.in1 outer s H:=⟨e.frames,e.mod,e.bs,e.bsz,e.funs,e.frf,e.hok,e.bare⟩
section
variable{X:Cx}{pins:List (Addr×Obj)}{σ:St}{H:Hp}{s s':Shared}
theorem Inv.env0(I:Inv X pins σ H s):Env0 X.prog X.w X.K X.mg X.base X.A X.stack s H :=
 ⟨I.ok.frames,I.ok.mod,I.bs,Ux I.ok.bsz I.sz,I.stack,I.stkFree,I.hok,I.bare⟩
theorem Inv.after{Q:VK}{u:Value}(I:Inv X pins σ H s)(h:CE X.stack X.prog X.w H s Q u s'):EP X pins σ Q u s':=by
 obtain⟨v,H',os,bare,un,hok,r,q⟩:=h
 obtain⟨hh,g,d,t,os'⟩:=s'
 obtain rfl:os'=s.os:=os
 exact⟨v,H',I.call (h':=hh) (g':=g) (d':=d) (t':=t) (ch:=[]) un hok bare (λb z=>absurd z (by simp)),r,q⟩
end
noncomputable def Binds(K:Frag)(fd:FuncData)(ps:List Str)(ds:List Value):Prop :=
 ∀(s:Shared)(us:List Value),K.In s.heap->(us++ds).length=ps.length->BindsTo s fd ⟨us,[]⟩ (ps.zip (us++ds))
theorem Binds.all{K:Frag}{fd:FuncData}{ps:List Str}(h:∀us:List Value,us.length=ps.length->bindArgs fd ⟨us,[]⟩=pure (ps.zip us)):Binds K fd ps []:=λs us _ hl=>by
 rw[U6]at hl ⊢
 exact .of_eq (h us hl)
section
variable{X:Cx}{CX:CXT}{k:Nat}{f C:Addr}{fd:FuncData}{ps:List Str}{sp:Sp}{dvs:List V}{ds:List Value}{E:XK}{x m:Str}{p pos apos:Pos}{e o:Expr}{es:List Expr}{ta:TE}{t:TA}
structure Mk(K:Frag)(C f:Addr):Prop where
 makes:makesIn K C=true
 init:findIn K (.ref C) "__init__" = some (some (.ref f))
 fn:isFn K (.ref f)=true
 kp:keepIn K (.ref C)=true
end
section
variable{X:Cx}{CX:CXT}{k:Nat}{f C:Addr}{fd:FuncData}{ps ks:List Str}{sp:Sp}{E:XK}{x m:Str}{p pos apos kpos:Pos}{e o:Expr}{es:List Expr}{kws:List Keyword}{te ta:TE}{t tk:TA}{nm:Option Str}
variable{g:List Value->List Value->List Value}{gV:List V->List V->List V}
end
structure FnScope(N P:List Str)(sc:Scope):Prop where
 kind:sc.kind=.function
 co:sc.isCoroutine=false
 gen:sc.isGenerator=false
 nd:N.Nodup
 pre:N.take P.length=P
 par:∀x∈P,sc.names.lookup x=some .local\/sc.names.lookup x=some .cell
 nofree:∀y∈sc.names,y.2≠.free
theorem QdQ{kindOf:Str->Option NameKind}{x:Str}:∀{binds:List (Str×Value)}{m:Str->Option Value},(∀v,(x,v)∉binds)->bindL kindOf binds m x=m x
 |[],_,_=>rfl
 | (n,v)::r,m,h=>by
  unfold bindL
  rw[QdQ λw hw=>h w (Ut _ hw)]
  split
  ·have:x≠n:=by rintro rfl;exact h v Ur
   simp[this]
  ·rfl
theorem QdR{kindOf:Str->Option NameKind}{x:Str}:∀{binds:List (Str×Value)}{m:Str->Option Value},(∀v,(x,v)∉binds)->bindC kindOf binds m x=m x
 |[],_,_=>rfl
 | (n,v)::r,m,h=>by
  unfold bindC
  rw[QdR λw hw=>h w (Ut _ hw)]
  split
  ·rfl
  ·have:x≠n:=by rintro rfl;exact h v Ur
   simp[this]
theorem QdS{kindOf:Str->Option NameKind}{x:Str}{v:Value}:∀{P:List Str}{vs:List Value}{i:Nat}{m:Str->Option Value},P.Nodup->P[i]?=some x->vs[i]?=some v->kindOf x=some .local ->
  bindL kindOf (P.zip vs) m x=some v
 |[],_,_,_,_,h,_,_=>by simp at h
 |_::_,[],_,_,_,_,h,_=>by simp at h
 |p::P,w::vs,0,m,nd,h1,h2,hk=>by
  simp at h1 h2;subst h1;subst h2
  show bindL kindOf ((p,w)::P.zip vs) m p=_
  unfold bindL
  rw[QdQ λv hv=>(Rz.mp nd).1 (Wp hv).1,Uc hk]
  simp
 |p::P,w::vs,i+1,m,nd,h1,h2,hk=>by
  show bindL kindOf ((p,w)::P.zip vs) m x=_
  unfold bindL
  exact QdS (i:=i) (Rz.mp nd).2 (by simpa using h1) (by simpa using h2) hk
theorem QdT{kindOf:Str->Option NameKind}{x:Str}{v:Value}:∀{P:List Str}{vs:List Value}{i:Nat}{m:Str->Option Value},P.Nodup->P[i]?=some x->vs[i]?=some v->kindOf x≠some .local ->
  bindC kindOf (P.zip vs) m x=some v
 |[],_,_,_,_,h,_,_=>by simp at h
 |_::_,[],_,_,_,_,h,_=>by simp at h
 |p::P,w::vs,0,m,nd,h1,h2,hk=>by
  simp at h1 h2;subst h1;subst h2
  show bindC kindOf ((p,w)::P.zip vs) m p=_
  unfold bindC
  rw[QdR λv hv=>(Rz.mp nd).1 (Wp hv).1,Uh hk]
  simp
 |p::P,w::vs,i+1,m,nd,h1,h2,hk=>by
  show bindC kindOf ((p,w)::P.zip vs) m x=_
  unfold bindC
  exact QdT (i:=i) (Rz.mp nd).2 (by simpa using h1) (by simpa using h2) hk
noncomputable def start(N:List Str)(vs:List V):St:=vs.map some++List.replicate (N.length-vs.length) none
noncomputable def cxOf(CX:CXT)(P:Program)(w:World)(K:Frag)(mg:Str->Option Value)(base:Heap)(N:List Str)(qual:Str)(scope:Scope)(f:Addr)(cd:Value)(A:Around)(outer:List Env)(s:Shared)(H:Hp)(E:XK):Cx where
 prog:=P
 w:=w
 K:=K
 mg:=mg
 base:=base
 A:=A.deeper (envOfC qual scope s.heap.objs.size f cd)
 N:=N
 s₀:=s
 H₀:=H
 env:=envOfC qual scope s.heap.objs.size f cd
 outer:=outer
 stack:=envOfC qual scope s.heap.objs.size f cd::outer
 ex:=[]
 calm:=true
 fn:=λ_=>true
 pn:=[]
 xe:=λe s'=>wpAny (model P w) (A.deeper (envOfC qual scope s.heap.objs.size f cd)) (leaving (envOfC qual scope s.heap.objs.size f cd) e) (λ_ s''=>CX outer H s E e s'') (λe' s''=>CX outer H s E e' s'') s'
theorem Qfx{sc:Scope}{n:Nat}{x:Str}(h:sc.names.lookup x=some .cell):∃c,(cellsFrom n sc.names []).lookup x=some c:=by
 have q:=Wi sc.names n [] (.inl h)
 exact Option.isSome_iff_exists.mp q
theorem Qhi{CX:CXT}{P:Program}{w:World}{K:Frag}{mg:Str->Option Value}{base:Heap}{N ps:List Str}{qual:Str}{scope:Scope}{f:Addr}{cd:Value}{A:Around}{outer:List Env}{s s1:Shared}{H:Hp}{E:XK}{us:List Value}{vs:List V}(S:FnScope N ps scope)(hd:A.handled=none)(e0:Env0 P w K mg base A outer s H)(hl:vs.length=ps.length)(r:Vals vs us)(x:InCallC s s.heap.objs.size (bindL (envOfC qual scope s.heap.objs.size f cd).kindOf (ps.zip us) λ_=>none) (cellsFrom (s.heap.objs.size+1) scope.names []) (bindC (envOfC qual scope s.heap.objs.size f cd).kindOf (ps.zip us) λ_=>none) s1):
  Inv (cxOf CX P w K mg base N qual scope f cd A outer s H E) [] (start N vs) H s1:=by
 have hpl:ps.length<=N.length:=by have:=T2 List.length S.pre;rw[Wc]at this;omega
 obtain⟨h1,tk,rfl,hk⟩:=x.done
 have noA:∀b:Addr,b∉(cxOf CX P w K mg base N qual scope f cd A outer s H E).ex:=λb z=>absurd (show b∈([]:List Addr) from z) (by simp)
 refine⟨⟨e0.mod,S.kind,rfl,rfl,Ug _,λy z c h1 h2=>?_,λy hy=>?_,λy c _ h=>?_,λ_=>hd,Around.frames_deeper e0.frames,.inr ⟨rfl,rfl⟩,λb z=>absurd z (noA b),e0.bs,e0.bsz,λb _ _=>noA b,λb z=>absurd z (noA b),e0.funs,e0.frf⟩,
  rfl,e0.bare,Un.kept hk,⟨_,x.toInCall.ns,λi y v h1 h2 h3=>?_⟩,λy c h=>⟨_,x.cell y c h⟩,e0.hok.fresh (Ug _),λy c h=>?_,λp hp=>absurd (show p∈([]:List (Addr×Obj)) from hp) (by simp),e0.hok.kept hk,?_⟩
 ·exact name_of_addr x.apart (Tv h1) (Tv h2)
 ·have hy:scope.names.lookup y=some .cell\/scope.names.lookup y=some .free:=hy
  rcases hy with hy|hy
  ·exact Qfx hy
  ·exact absurd rfl (S.nofree _ (Tv hy))
 ·exact U3 (x.above y c (Tv h))
 ·have hi:i<vs.length:=by
   unfold start at h2
   by_cases hi:i<vs.length
   ·exact hi
   ·rw[UJ (by simpa using hi)]at h2
    rw[TR]at h2
    split at h2 <;> cases h2
  have ha:vs[i]?=some v:=by
   unfold start at h2
   rw[Uy (by simpa using hi),UK]at h2
   cases e:vs[i]? with
   |none=>rw[e]at h2;cases h2
   |some a=>rw[e]at h2;cases h2;rfl
  obtain⟨u,hu,rv⟩:=r.get ha
  have hp:ps[i]?=some y:=by
   rw[<-S.pre,List.getElem?_take_of_lt (by omega)];exact h1
  have ndP:ps.Nodup:=by rw[<-S.pre];exact S.nd.sublist (List.take_sublist _ _)
  refine⟨u,rv,?_⟩
  rcases S.par y (WE hp) with k|k
  ·exact .inl ⟨k,QdS ndP hp hu k⟩
  ·obtain⟨c,e⟩:=Qfx (n:=s.heap.objs.size+1) k
   refine .inr ⟨.inl k,c,e,?_⟩
   have q:=x.cell y c e
   rw[QdT ndP hp hu (by show scope.names.lookup y≠_;rw[k];decide)]at q
   exact q
 ·exact e0.hok.fresh (U3 (x.above y c (Tv h)))
 ·unfold start
  show _=N.length
  rw[UB,Um,U0]
  omega
theorem QmH{CX:CXT}{P:Program}{w:World}{K:Frag}{mg:Str->Option Value}{base:Heap}{k:Nat}{f:Addr}{name qual:Str}{params:Arguments}{body:List Stmt}{scope:Scope}{dV kV doc pm cdv ct oc:Value}{an od:Option Addr}{osl:Array (Option Value)}{N ps:List Str}{sp:Sp}(lk:K.lookup f=some ⟨oc,od,.func (fnOf name qual params body scope dV kV doc pm an cdv ct),osl⟩)(hcd:codeIn K cdv qual=true)(S:FnScope N ps scope)(len:∀vs H Q E,sp vs H Q E->vs.length=ps.length)(hbody:∀(A:Around) (outer:List Env) (s:Shared) (H:Hp) (vs:List V) (Q:VK) (E:XK),Room k (A.deeper (envOfC qual scope s.heap.objs.size f cdv))->sp vs H Q E ->
   ∃t,PSs (cxOf CX P w K mg base N qual scope f cdv A outer s H E) body t/\t {nx:=λ_ H'=>Q .non H',rt:=Q} (start N vs) H):
  FnOk P w K mg base CX (k+1) f (fnOf name qual params body scope dV kV doc pm an cdv ct) ps sp:=by
 refine⟨len,λA outer s H args us vs Q E hr e0 hb r hsp=>?_⟩
 have hl:=len _ _ _ _ hsp
 have KX:K.In s.heap:=e0.mod.kin.keeps λb o e=>(e0.bs b o e).1
 have lim:s.heap.NoLimit:=e0.mod.nolimit.keeps λb o e=>(e0.bs b o e).1
 have hkind:∀y∈ps.zip us,scope.names.lookup y.1=some .local\/(scope.names.lookup y.1=some .cell/\((cellsFrom (s.heap.objs.size+1) scope.names []).lookup y.1).isSome=true):=λ⟨n,v⟩ hy=>by
  rcases S.par n (Wp hy).1 with q|q
  ·exact .inl q
  ·exact .inr ⟨q,Wi _ _ _ (.inl q)⟩
 refine codeAny_call_function hr.depth (KX _ _ lk) rfl S.co S.gen rfl (codeRec_of KX hcd) (hb _ _ _ _ ?_)
 refine wpAny_newFunctionEnv_cells S.kind hkind λenv he s1 x=>?_
 subst he
 refine⟨lim.keeps x.toInCall.keep,codeAny_func ?_⟩
 obtain⟨t,ht,hq⟩:=hbody A outer s H vs Q E (hr.deeper _) hsp
 have I:Inv (cxOf CX P w K mg base N qual scope f cdv A outer s H E) [] (start N vs) H s1:=Qhi S hr.hd e0 hl r x
 refine Tc (ht [] s1 (start N vs) H _ I hq) (λfl s' hs=>?_) λe s' hs=>hs
 have fin:∀{σ':St}{H':Hp}{v:V}{u:Value},Inv (cxOf CX P w K mg base N qual scope f cdv A outer s H E) [] σ' H' s'->RelV v u->Q v H'->CE outer P w H s Q u s' :=
  λ{σ' H' v u} J rv q=>⟨v,H',J.os,J.bare,J.base,J.hok,rv,q⟩
 cases fl with
 |ret u =>
  obtain⟨v,σ',H',J,rv,q⟩:=hs
  exact fin J rv q
 |next =>
  obtain⟨σ',H',J,q⟩:=hs
  exact fin (v:=V.non) (u:=Value.none) J rfl q
 |brk =>
  obtain⟨_,_,_,q⟩:=hs
  exact False.elim q
 |cont =>
  obtain⟨_,_,_,q⟩:=hs
  exact False.elim q
end
section
section
variable{X:Cx}{x:Str}{p pos:Pos}{e:Expr}{es:List Expr}{t:TA}{id T:String}{r:List V->Hp->VK->Prop}
noncomputable def tCB(r:List V->Hp->VK->Prop)(t:TA):TE:=λσ H Q=>t σ H λvs H1=>r vs H1 Q
theorem Qc1(hc:CallR X (.builtin id) r)(hg:Gl X x)(hm:X.mg x=none)(hv:bootBuiltins x=some (.builtin id))(ha:PA X (e::es) t)(hn:x ≠ "__name__":=by decide)(hdb:(x == ("__debug__" : Str))=false:=by decide)(he:starEach (e::es) X.env=(false,eval e X.env)::starEach es X.env:=by rfl)(hpl:(backTo pos (starEach es X.env)).any (·.1)=false:=by rfl):PE X (.Call (.Name x p) (e::es) [] pos) (tCB r t):=by
 intro pins s σ H Q I h
 refine T8 (Jw I hg hm hv ?_ hn hdb)
 exact PyProof.Rows.callWith_builtin1 (thn (ha pos pins s σ H _ I h) λus s1 ⟨vs,H1,I1,r1,q1⟩=>hc pins s1 σ H1 vs us Q I1 r1 q1) he hpl
theorem Qhj(hc:CallR X (.type T) r)(hg:Gl X x)(hm:X.mg x=none)(hv:bootBuiltins x=some (.type T))(ha:PA X (e::es) t)(hn:x ≠ "__name__":=by decide)(hdb:(x == ("__debug__" : Str))=false:=by decide)(he:starEach (e::es) X.env=(false,eval e X.env)::starEach es X.env:=by rfl)(hpl:(backTo pos (starEach es X.env)).any (·.1)=false:=by rfl):PE X (.Call (.Name x p) (e::es) [] pos) (tCB r t):=by
 intro pins s σ H Q I h
 refine T8 (Jw I hg hm hv ?_ hn hdb)
 exact UG (thn (ha pos pins s σ H _ I h) λus s1 ⟨vs,H1,I1,r1,q1⟩=>hc pins s1 σ H1 vs us Q I1 r1 q1) he hpl
end
end
end L2
namespace HT
open PySem PyProof.Rows
section
open PySem.SeqAt
open PySem.AutoSeq1 (wpAny_loadPart')
open PySem.MeetsSeq PySem.MeetsSeq2 PySem.MeetsSeq3
end
section
variable{prog:Program}{w:World}{A:Around}{E:Value->Shared->Prop}{s:Shared}
theorem cat_tup{t b:Addr}{vs ws:List Value}{Q:Value->Shared->Prop}(ht:IsTup s.heap t vs.toArray)(hb:IsTup s.heap b ws.toArray)(hv:vs≠[])(h1:ws=[]->Q (.ref t) s)(h2:ws≠[]->Q (.ref s.heap.objs.size) {s with heap:=s.heap.push {cls:=.type "tuple",data:=.seq (vs++ws).toArray} })(hsz:vs.length+ws.length<=sizeLine):wpAny (model prog w) A (binaryOp .Add (.ref t) (.ref b)) Q E s:=by
 obtain⟨⟨cls,dd,data,sl⟩,ho,hc,n,hd⟩:=id ht
 obtain⟨⟨cls2,dd2,data2,sl2⟩,ho2,hc2,n2,hd2⟩:=id hb
 simp only at hc hd hc2 hd2
 subst hc hd hc2 hd2
 have e:vs.toArray++ws.toArray=(vs++ws).toArray:=by simp
 by_cases hw:ws=[]
 ·exact concat_meets ⟨_,ho,rfl⟩ ⟨_,ho2,rfl⟩ Wd seq_tuple_add Rg Ra (T5 _ _)
   (tuple_addW1 t b vs.toArray ws.toArray n n2 dd dd2 sl sl2 (by simpa using hv) (by simp[hw])) ⟨ho,ho2,h1 hw⟩
 ·refine concat_meets ⟨_,ho,rfl⟩ ⟨_,ho2,rfl⟩ Wd seq_tuple_add Rg Ra (T5 _ _)
   (tuple_addW2 t b vs.toArray ws.toArray n n2 dd dd2 sl sl2 (by simpa using hv) (by simpa using hw) (by rw[Uo,Uo];exact hsz)) ⟨ho,ho2,?_⟩
  rw[e]
  exact h2 hw
noncomputable def sIx(n d:Nat):Option Int->Nat
 |none=>d
 |some v=>if v<0 then (v+(n:Int)).toNat else min v.toNat n
end
end HT
namespace L2
open PySem PySem.Spec PyProof.Rows
section
noncomputable abbrev TO:=St->Hp->(Option Int->Hp->Prop)->Prop
noncomputable def PO(X:Cx)(e:Option Expr)(t:TO):Prop :=
 ∀(pins:List (Addr×Obj))(s:Shared)(σ:St)(H:Hp)(Q:Option Int->Hp->Prop),Inv X pins σ H s->t σ H Q ->
  wpAny (model X.prog X.w) X.A (evalPart e X.env) (λu s'=>∃o H',Inv X pins σ H' s'/\IsPart u o/\Q o H') X.xe s
noncomputable def QnV(t:TE):TO:=λσ H Q=>t σ H λx H1=>∃i,x=.int i/\Q (some i) H1
theorem intsAre_of{ns:List Int}:∀{us:List Value},Vals (ns.map V.int) us->IntsAre us ns:=by
 induction ns with
 |nil=>intro us r;rw[List.map_nil]at r;cases r;exact .nil
 |cons n ns ih =>
  intro us r
  rw[UH]at r
  cases r with
  |cons r1 r2 =>
   obtain⟨t,e⟩:=r1
   subst e
   exact .cons n t (ih r2)
section
variable{X:Cx}{e:Expr}{te:TE}{lo hi:Option Expr}{tl th:TO}{pos p2:Pos}
theorem Qk5(h:PE X e te):PO X (some e) (QnV te):=by
 intro pins s σ H Q I hw
 rw[evalPart_some]
 refine thn (h pins s σ H _ I hw) λu s1 ⟨x,H1,I1,r1,q1⟩=>?_
 obtain⟨i,rfl,q⟩:=q1
 obtain⟨t,rfl⟩:=r1
 exact⟨some i,H1,I1,.int i t,q⟩
noncomputable def SlR(X:Cx)(r:V->Option Int->Option Int->Hp->VK->Prop):Prop :=
 ∀(pins:List (Addr×Obj))(s:Shared)(σ:St)(H:Hp)(x:V)(v vl vu:Value)(lo hi:Option Int)(sl:Addr)(Q:VK),Inv X pins σ H s->RelV x v->s.heap.IsSliceOf sl vl vu .none->IsPart vl lo->IsPart vu hi->r x lo hi H Q ->
  ∃T id,typeLookup (.type T) "__getitem__" = pure (some (.builtin id))/\s.TypeIs v T/\wpAny (model X.prog X.w) X.A (getItem v (.ref sl)) (EP X pins σ Q) X.xe s
theorem SlR.or{r r':V->Option Int->Option Int->Hp->VK->Prop}(h:SlR X r)(h':SlR X r'):SlR X (λx lo hi H Q=>r x lo hi H Q\/r' x lo hi H Q):=by
 intro pins s σ H x v vl vu lo hi sl Q I rx hs pl pu q
 rcases q with q|q
 ·exact h pins s σ H x v vl vu lo hi sl Q I rx hs pl pu q
 ·exact h' pins s σ H x v vl vu lo hi sl Q I rx hs pl pu q
noncomputable def tSl(r:V->Option Int->Option Int->Hp->VK->Prop)(te:TE)(tl th:TO):TE:=λσ H Q=>te σ H λx H1=>tl σ H1 λl H2=>th σ H2 λu H3=>r x l u H3 Q
theorem Qi3{r:V->Option Int->Option Int->Hp->VK->Prop}(hr:SlR X r)(he:PE X e te)(hl:PO X lo tl)(hu:PO X hi th):PE X (.Subscript e (.Slice lo hi none p2) pos) (tSl r te tl th):=by
 intro pins s σ H Q I h
 refine Subscript_ (thn (he pins s σ H _ I h) λv s1 ⟨x,H1,I1,r1,q1⟩=>?_)
 refine wpAny_Slice (thn (hl pins s1 σ H1 _ I1 q1) λvl s2 ⟨l,H2,I2,pl,q2⟩=>thn (hu pins s2 σ H2 _ I2 q2) λvu s3 ⟨u,H3,I3,pu,q3⟩=>?_)
 rw[evalPart_none]
 refine Uj ?_
 have I4:Inv X pins σ H3 {s3 with heap:=s3.heap.push {cls:=.type "slice",data:=.fields #[vl,vu,.none]} }:=I3.kept (t':=s3.toks) λb ob q=>Ub _ q
 obtain⟨T,id,hT,ht,hg⟩:=hr pins {s3 with heap:=s3.heap.push {cls:=.type "slice",data:=.fields #[vl,vu,.none]} } σ H3 x v vl vu l u s3.heap.objs.size Q I4 r1 (Heap.IsSliceOf.new ..) pl pu q3
 show wpAny (model X.prog X.w) X.A (subscriptTail e (.Slice lo hi none p2) v (.ref s3.heap.objs.size)) (EP X pins σ Q) X.xe {s3 with heap:=s3.heap.push {cls:=.type "slice",data:=.fields #[vl,vu,.none]} }
 exact tail_any (ops:=[.ref s3.heap.objs.size,v]) ht hT hg (by with_unfolding_all rfl)
noncomputable def cutV(xs:List V)(lo hi:Option Int):List V:=(xs.drop (HT.sIx xs.length 0 lo)).take (HT.sIx xs.length xs.length hi-HT.sIx xs.length 0 lo)
theorem QeJ(xs:List V)(lo hi:Option Int):(cutV xs lo hi).length<=xs.length:=by
 unfold cutV
 rw[Wc,List.length_drop]
 omega
noncomputable def QmI(K:Frag):R2:=λx y H Q=>∃a b xs ys,x=.ref a/\y=.ref b/\SqT K H a xs/\SqT K H b ys/\xs≠[]/\xs.length+ys.length<=sizeLine /\
 (ys=[]->Q (.ref a) H)/\(ys≠[]->∀p,H p=none->Q (.ref p) (upd H p (.tup (xs++ys))))
theorem Vals.nil_iff{xs:List V}{us:List Value}(r:Vals xs us):us=[]↔xs=[]:=by
 cases r with
 |nil=>simp
 |cons _ _=>simp
theorem Qk6:OpR X (binaryOp .Add) (QmI X.K):=by
 intro pins s σ H x y v u Q I rx ry h
 obtain⟨a,b,xs,ys,rfl,rfl,ha,hb,hx,hz,q1,q2⟩:=h
 cases rx
 cases ry
 obtain⟨its,r1,p1,_⟩:=I.tuple ha
 obtain⟨its2,r2,p2,_⟩:=I.tuple hb
 refine HT.cat_tup p1 p2 (λz=>hx (r1.nil_iff.mp z)) (λz=>⟨.ref a,H,I,rfl,q1 (r2.nil_iff.mp z)⟩) (λz=>?_) (by rw[<-r1.length,<-r2.length];exact hz)
 refine⟨.ref s.heap.objs.size,_,I.laid (t':=s.toks) (o:=.tup (xs++ys)) (λb ob q=>Ub _ q) (Ug _) ?_,rfl,q2 (λw=>z (r2.nil_iff.mpr w)) _ (I.hok.fresh (Ug _))⟩
 exact⟨by rw[UB];exact hz,_,r1.append r2,IsTup.new _ _⟩
end
end
section
noncomputable def ixN(n:Nat)(i:Int):Option Nat:=if 0<=i then (if i<n then some i.toNat else none) else if -(n:Int)<=i then some (i+n).toNat else none
noncomputable def atI{α:Type}(xs:List α)(i:Int):Option α:=(ixN xs.length i).bind λj=>xs[j]?
theorem Qhk{n:Nat}{i:Int}{j:Nat}(h:ixN n i=some j):seqIndex? i n=some j/\j<n /\ -(n:Int)<=i/\i<n:=by
 unfold ixN at h
 by_cases h0:0<=i
 ·rw[Uc h0]at h
  by_cases h1:i<n
  ·rw[Uc h1]at h
   have e:i.toNat=j:=Option.some.inj h
   exact⟨by rw[seqIndex_of h0 h1,e],by omega,by omega,h1⟩
  ·rw[Uh h1]at h;cases h
 ·rw[Uh h0]at h
  by_cases h1 : -(n:Int)<=i
  ·rw[Uc h1]at h
   have e:(i+n).toNat=j:=Option.some.inj h
   exact⟨by rw[seqIndex_neg (by omega) h1,e],by omega,h1,by omega⟩
  ·rw[Uh h1]at h;cases h
theorem QeK{α:Type}{xs:List α}{i:Int}{v:α}(h:atI xs i=some v):∃j,seqIndex? i xs.length=some j/\xs[j]?=some v/\j<xs.length /\ -(xs.length:Int)<=i/\i<xs.length:=by
 unfold atI at h
 cases e:ixN xs.length i with
 |none=>rw[e]at h;cases h
 |some j =>
  rw[e]at h
  obtain⟨h1,h2,h3,h4⟩:=Qhk e
  exact⟨j,h1,h,h2,h3,h4⟩
def QbU(b:Expr):Prop:=∀o i,subscripted b false o i=operate [o,i] (getItem o i)
noncomputable def IxR(X:Cx)(r:R2):Prop :=
 ∀(value slice:Expr)(pins:List (Addr×Obj))(s:Shared)(σ:St)(H:Hp)(x y:V)(v u:Value)(Q:VK),Inv X pins σ H s->RelV x v->RelV y u->r x y H Q ->
  subscripted slice false v u=operate [v,u] (getItem v u)->wpAny (model X.prog X.w) X.A (subscriptTail value slice v u) (EP X pins σ Q) X.xe s
noncomputable def MtR(X:Cx)(id:String)(r:V->List V->Hp->VK->Prop):Prop :=
 ∀(pins:List (Addr×Obj))(s:Shared)(σ:St)(H:Hp)(x:V)(xs:List V)(v:Value)(us:List Value)(Q:VK),Inv X pins σ H s->RelV x v->Vals xs us->r x xs H Q ->
  wpAny (model X.prog X.w) X.A (call (.builtin id) (v::us)) (EP X pins σ Q) X.xe s
section
variable{X:Cx}{a b:Expr}{ta tb:TE}{pos:Pos}
theorem IxR.or{r r':R2}(h:IxR X r)(h':IxR X r'):IxR X (λx y H Q=>r x y H Q\/r' x y H Q):=by
 intro value slice pins s σ H x y v u Q I rx ry q hs
 rcases q with q|q
 ·exact h value slice pins s σ H x y v u Q I rx ry q hs
 ·exact h' value slice pins s σ H x y v u Q I rx ry q hs
theorem MtR.or{id:String}{r r':V->List V->Hp->VK->Prop}(h:MtR X id r)(h':MtR X id r'):MtR X id (λx xs H Q=>r x xs H Q\/r' x xs H Q):=by
 intro pins s σ H x xs v us Q I rx rs q
 rcases q with q|q
 ·exact h pins s σ H x xs v us Q I rx rs q
 ·exact h' pins s σ H x xs v us Q I rx rs q
theorem QnW{r:R2}(hr:IxR X r)(ha:PE X a ta)(hb:PE X b tb)(hs:QbU b):PE X (.Subscript a b pos) (tOp r ta tb):=by
 intro pins s σ H Q I h
 exact Subscript_ (binT ha hb I h λv u s2 x y H2 I2 rx ry q=>hr a b pins s2 σ H2 x y v u Q I2 rx ry q (hs _ _))
noncomputable def rIxL(K:Frag):R2:=λx y H Q=>∃p xs i v,x=.ref p/\y=.int i/\SqL K H p xs/\atI xs i=some v/\Q v H
noncomputable def rIxT(K:Frag):R2:=λx y H Q=>∃p xs i v,x=.ref p/\y=.int i/\SqT K H p xs/\atI xs i=some v/\Q v H
noncomputable def rIxS:R2:=λx y H Q=>∃z i c,x=.str z/\y=.int i/\z.length<=sizeLine/\atI z.cps.toList i=some c/\Q (.str ⟨#[c]⟩) H
theorem ix_list:IxR X (rIxL X.K):=by
 intro value slice pins s σ H x y v u Q I rx ry h hs
 obtain⟨p,xs,i,z,rfl,rfl,hq,he,q⟩:=h
 cases rx
 obtain⟨t,rfl⟩:=ry
 obtain⟨its,r,pl,hz⟩:=I.list hq
 obtain⟨j,h1,h2,h3,h4,h5⟩:=QeK he
 obtain⟨w,ew,rw'⟩:=r.get h2
 have hl:=r.length
 have hn:=Qbn
 have fin:EP X pins σ Q w s:=⟨z,H,I,rw',q⟩
 by_cases h0:0<=i
 ·have hj:i.toNat=j:=by
   rw[seqIndex_of h0 h5]at h1
   exact Option.some.inj h1
  exact item_listR pl.isList h0 (by omega) (by rw[hj];simpa using ew) fin hs
 ·have hj:(i+(its.toArray.size:Int)).toNat=j:=by
   rw[seqIndex_neg (by omega) h4]at h1
   rw[Uo,<-hl]
   exact Option.some.inj h1
  exact subscriptTail_builtinR (x:=w) pl.isList.typeIs slot_list_getitem.lookup
   (wpAny_getItem_list_neg (Q:=λr s'=>r=w/\EP X pins σ Q r s') pl.isList (by omega) (by rw[Uo] <;> omega) (by omega) (by rw[hj];simpa using ew) ⟨rfl,fin⟩) hs
theorem ix_tup:IxR X (rIxT X.K):=by
 intro value slice pins s σ H x y v u Q I rx ry h hs
 obtain⟨p,xs,i,z,rfl,rfl,hq,he,q⟩:=h
 cases rx
 obtain⟨t,rfl⟩:=ry
 obtain⟨its,r,pl,hz⟩:=I.tuple hq
 obtain⟨j,h1,h2,h3,h4,h5⟩:=QeK he
 obtain⟨w,ew,rw'⟩:=r.get h2
 have hl:=r.length
 have hn:=Qbn
 have fin:EP X pins σ Q w s:=⟨z,H,I,rw',q⟩
 exact subscriptTail_builtinR (x:=w) pl.typeIs slot_tuple_getitem.lookup
  (getItem_tuple (j:=j) (Q:=λr s'=>r=w/\EP X pins σ Q r s') pl (by omega) (by omega) (by rw[Uo,<-hl];exact h1) (by simpa using ew) ⟨rfl,fin⟩) hs
theorem QmJ:IxR X rIxS:=by
 intro value slice pins s σ H x y v u Q I rx ry h hs
 obtain⟨z,i,c,rfl,rfl,hz,he,q⟩:=h
 obtain⟨t,rfl⟩:=rx
 obtain⟨t',rfl⟩:=ry
 obtain⟨j,h1,h2,h3,h4,h5⟩:=QeK he
 have hl:z.cps.toList.length=z.length:=by simp[Str.length]
 rw[hl]at h1 h4 h5
 have hn:=Qbn
 exact tail_any (typeIs_str s z t) slot_str_getitem.lookup (getItem_str (c:=c) (by
  have e1:decide (i < -(2^63:Int))=false:=Uq (by omega)
  have e2:decide (i>=2^63)=false:=Uq (by omega)
  rw[e1,e2,Bool.or_false]) (by rw[h1];simpa using h2) ⟨.str ⟨#[c]⟩,H,I.tok _,⟨_,rfl⟩,q⟩) hs
noncomputable def rIx(K:Frag):R2:=λx y H Q=>rIxL K x y H Q\/rIxT K x y H Q\/rIxS x y H Q
theorem QmK:IxR X (rIx X.K):=ix_list.or (ix_tup.or QmJ)
theorem Qgr(its:List Value)(n j:Nat)(u:Value):Obj.mapSeq (·.setIfInBounds j u) {cls:=.type "list",data:=.seq its.toArray n} = {cls:=.type "list",data:=.seq (its.set j u).toArray n}:=by
 simp[Obj.mapSeq]
theorem Inv.lst{pins:List (Addr×Obj)}{σ:St}{H:Hp}{s:Shared}{p:Addr}{xs:List V}(I:Inv X pins σ H s)(h:H p=some (.lst xs)):
  ∃(its:List Value)(n:Nat),Vals xs its/\s.heap.get? p=some {cls:=.type "list",data:=.seq its.toArray n}/\xs.length<=sizeLine:=by
 obtain⟨z,its,n,r,e⟩:=I.hok p _ h
 exact⟨its,n,r,e,z⟩
theorem Inv.lstUpd{pins:List (Addr×Obj)}{σ:St}{H:Hp}{s:Shared}{p:Addr}{xs ys:List V}{its its':List Value}{n n':Nat}{f:Obj->Obj}(I:Inv X pins σ H s)(h:H p=some (.lst xs))(ho:s.heap.get? p=some {cls:=.type "list",data:=.seq its.toArray n})(hf:f {cls:=.type "list",data:=.seq its.toArray n} = {cls:=.type "list",data:=.seq its'.toArray n'})(r:Vals ys its')(hz:ys.length<=sizeLine)(t:Nat):
  Inv X pins σ (upd H p (.lst ys)) {s with heap:=s.heap.update p f,toks:=t}:=by
 have e:(s.heap.update p f).get? p=some {cls:=.type "list",data:=.seq its'.toArray n'}:=by
  rw[TH f ho (by rw[hf] <;> rfl),hf]
 refine I.write (x:=p) (e:=p) (by rw[h];trivial) (.inl rfl) (λb u hb q=>(U7 _ _ (Ne.symm hb)).trans q) ⟨_,e⟩ ?_
 exact⟨hz,its',n',r,e⟩
noncomputable def QnX:V->V->V->Hp->(Hp->Prop)->Prop:=λo i v H Q=>∃p xs k j,o=.ref p/\i=.int k/\H p=some (.lst xs)/\ixN xs.length k=some j/\Q (upd H p (.lst (xs.set j v)))
theorem Qi4:PSet X QnX:=by
 intro pins s σ H o i v ov iv u Q I ro ri rv h
 obtain⟨p,xs,k,j,rfl,rfl,hp,hj,q⟩:=h
 cases ro
 obtain⟨t,rfl⟩:=ri
 obtain⟨its,n,r,ho,hz⟩:=I.lst hp
 obtain⟨h1,h2,h3,h4⟩:=Qhk hj
 have hl:=r.length
 have hn:=Qbn
 have I':Inv X pins σ (upd H p (.lst (xs.set j v))) {s with heap:=s.heap.update p (Obj.mapSeq (·.setIfInBounds j u))} :=
  I.lstUpd hp ho (Qgr its n j u) (r.set rv j) (by rw[UR];exact hz) s.toks
 by_cases h0:0<=k
 ·have hk:k.toNat=j:=by
   rw[seqIndex_of h0 h4]at h1
   exact Option.some.inj h1
  exact ki_setAt ho h0 (by omega) (by rw[Uo,<-hl];exact h4) (by rw[hk];exact⟨_,I',q⟩)
 ·have hk:(k+(its.toArray.size:Int)).toNat=j:=by
   rw[seqIndex_neg (by omega) h3]at h1
   rw[Uo,<-hl]
   exact Option.some.inj h1
  exact ki_setBack ho (by omega) (by rw[Uo,<-hl];exact h3) (by omega) (by rw[hk];exact⟨_,I',q⟩)
theorem QdU(lo hi:Option Int)(n:Nat):(sliceBounds lo hi none n).1=((HT.sIx n 0 lo:Nat):Int)/\(sliceBounds lo hi none n).2.1=((HT.sIx n n hi:Nat):Int)/\(sliceBounds lo hi none n).2.2=1:=by
 refine⟨?_,?_,rfl⟩
 ·cases lo with
  |none=>simp[sliceBounds,HT.sIx]
  |some i =>
   simp only[sliceBounds,HT.sIx,Option.getD_none,show(1:Int) > 0 by decide,RC]
   by_cases h:i<0
   ·simp only[h,RC] <;> omega
   ·simp only[h,Rm] <;> omega
 ·cases hi with
  |none=>simp[sliceBounds,HT.sIx]
  |some i =>
   simp only[sliceBounds,HT.sIx,Option.getD_none,show(1:Int) > 0 by decide,RC]
   by_cases h:i<0
   ·simp only[h,RC] <;> omega
   ·simp only[h,Rm] <;> omega
theorem Qc2(its:List Value)(lo hi:Option Int):slicePick its.toArray lo hi none=((its.drop (HT.sIx its.length 0 lo)).take (HT.sIx its.length its.length hi-HT.sIx its.length 0 lo)).toArray:=by
 obtain⟨h1,h2,h3⟩:=QdU lo hi its.toArray.size
 unfold slicePick
 rw[h1,h2,h3]
 simp only[sliceRange_one,pick_run,Uo] <;> rfl
noncomputable def rSlL(K:Frag):V->Option Int->Option Int->Hp->VK->Prop:=λx lo hi H Q=>∃a xs,x=.ref a/\SqL K H a xs/\∀p,H p=none->Q (.ref p) (upd H p (.lst (cutV xs lo hi)))
theorem Qk7:SlR X (rSlL X.K):=by
 intro pins s σ H x v vl vu lo hi sl Q I rx hs pl pu h
 obtain⟨a,xs,rfl,hx,q⟩:=h
 cases rx
 obtain⟨its,r,ht,hz⟩:=I.list hx
 have hlen:=r.length
 refine⟨"list",_,slot_list_getitem.lookup,ht.isList.typeIs,?_⟩
 refine wpAny_getItem_list_slice ht.isList hs pl pu .none (by simp) ?_ (by rw[Uo] <;> omega)
 rw[Qc2,<-hlen]
 refine⟨.ref s.heap.objs.size,_,I.laid (t':=s.toks) (o:=.lst (cutV xs lo hi)) (λb ob q=>Ub _ q) (Ug _) ?_,rfl,q _ (I.hok.fresh (Ug _))⟩
 exact⟨Ux (QeJ xs lo hi) hz,_,0,(r.drop (HT.sIx xs.length 0 lo)).take (HT.sIx xs.length xs.length hi-HT.sIx xs.length 0 lo),Ul _ rfl⟩
noncomputable def QcA:V->Bool
 |.non=>true
 |.bl _=>true
 |.int _=>true
 |.str _=>true
 |_=>false
noncomputable def eqV:V->V->Bool
 |.non,.non=>true
 |.bl a,.bl b=>a == b
 |.bl a,.int b=>(if a then 1 else 0) == b
 |.int a,.bl b=>a == (if b then 1 else 0)
 |.int a,.int b=>a == b
 |.str a,.str b=>a == b
 |_,_=>false
theorem QmL{A:Around}{s:Shared}{y x:V}{u v:Value}(ry:RelV y u)(rx:RelV x v)(fy:QcA y=true)(fx:QcA x=true):SeqAt.EqAt A s u v (eqV y x):=by
 cases y with
 |non =>
  cases ry
  cases x with
  |non=>cases rx;exact SeqAt.EqAt.same _
  |bl b=>cases rx;exact SeqAt.EqAt.none_bool b
  |int b=>obtain⟨t,rfl⟩:=rx;exact SeqAt.EqAt.none_int b t
  |str b=>obtain⟨t,rfl⟩:=rx;exact SeqAt.EqAt.none_str b t
  |_=>exact absurd (show false=true from fx) Ud
 |bl a =>
  cases ry
  cases x with
  |non=>cases rx;exact SeqAt.EqAt.bool_none a
  |bl b=>cases rx;exact SeqAt.EqAt.bool_bool a b
  |int b=>obtain⟨t,rfl⟩:=rx;exact SeqAt.EqAt.bool_int a b t
  |str b=>obtain⟨t,rfl⟩:=rx;exact SeqAt.EqAt.bool_str a b t
  |_=>exact absurd (show false=true from fx) Ud
 |int a =>
  obtain⟨t',rfl⟩:=ry
  cases x with
  |non=>cases rx;exact SeqAt.EqAt.int_none a t'
  |bl b=>cases rx;exact SeqAt.EqAt.int_bool a t' b
  |int b=>obtain⟨t,rfl⟩:=rx;exact RM a t' b t
  |str b=>obtain⟨t,rfl⟩:=rx;exact SeqAt.EqAt.int_str a t' b t
  |_=>exact absurd (show false=true from fx) Ud
 |str a =>
  obtain⟨t',rfl⟩:=ry
  cases x with
  |non=>cases rx;exact SeqAt.EqAt.str_none a t'
  |bl b=>cases rx;exact SeqAt.EqAt.str_bool a t' b
  |int b=>obtain⟨t,rfl⟩:=rx;exact SeqAt.EqAt.str_int a t' b t
  |str b=>obtain⟨t,rfl⟩:=rx;exact SeqAt.EqAt.str_str a t' b t
  |_=>exact absurd (show false=true from fx) Ud
 |_=>exact absurd (show false=true from fy) Ud
noncomputable def eqU(x:V)(u:Value):Bool:=match u with
 |.none=>eqV .non x
 |.bool b=>eqV (.bl b) x
 |.int i _=>eqV (.int i) x
 |.str z _=>eqV (.str z) x
 |_=>false
theorem Qkj{x y:V}{u:Value}(r:RelV y u)(f:QcA y=true):eqU x u=eqV y x:=by
 cases y with
 |non=>cases r;rfl
 |bl b=>cases r;rfl
 |int i=>obtain⟨t,rfl⟩:=r;rfl
 |str z=>obtain⟨t,rfl⟩:=r;rfl
 |_=>exact absurd (show false=true from f) Ud
theorem QeL{x:V}:∀{xs:List V}{us:List Value},Vals xs us->xs.all QcA=true->us.any (eqU x)=xs.any λy=>eqV y x
 |_,_,.nil,_=>rfl
 |y::xs,u::us,.cons r t,f=>by
  rw[T6,UD]at f
  rw[Tz,Tz,Qkj r f.1,QeL t f.2]
theorem Qc3{A:Around}{s:Shared}{x:V}{v:Value}(rx:RelV x v)(fx:QcA x=true):∀{xs:List V}{us:List Value},Vals xs us->xs.all QcA=true->∀u∈us,SeqAt.EqAt A s u v (eqU x u)
 |_,_,.nil,_=>λu hu=>by cases hu
 |y::xs,u::us,.cons r t,f=>λu' hu=>by
  rw[T6,UD]at f
  rcases Uu.mp hu with rfl|hu
  ·rw[Qkj r f.1];exact QmL r rx f.1 fx
  ·exact Qc3 rx fx t f.2 u' hu
noncomputable def inV(x:V)(xs:List V):Bool:=xs.any λy=>eqV y x
noncomputable def rIn(K:Frag)(neg:Bool):R2:=λx y H Q=>∃p xs,y=.ref p/\(SqL K H p xs\/SqT K H p xs)/\QcA x=true/\xs.all QcA=true/\Q (.bl (if neg then !inV x xs else inV x xs)) H
theorem Qhl:OpR X (compareOp .In) (rIn X.K false):=by
 intro pins s σ H x y v u Q I rx ry h
 obtain⟨p,xs,rfl,hq,fx,fs,q⟩:=h
 cases ry
 rcases hq with hq|hq
 ·obtain⟨its,r,pl,hz⟩:=I.list hq
  refine SeqAt.in_listAt (eqU x) pl.isList (λw hw=>Qc3 rx fx r fs w (by simpa using hw)) ⟨.bl _,H,I,rfl,?_⟩
  rw[show its.toArray.any (eqU x)=its.any (eqU x) by simp,QeL r fs]
  exact q
 ·obtain⟨its,r,pl,hz⟩:=I.tuple hq
  refine SeqAt.in_tupleAt (eqU x) pl (λw hw=>Qc3 rx fx r fs w (by simpa using hw)) ⟨.bl _,H,I,rfl,?_⟩
  rw[show its.toArray.any (eqU x)=its.any (eqU x) by simp,QeL r fs]
  exact q
theorem QdV:CallR X (.builtin "len") (λxs H Q=>∃p ys,xs=[.ref p]/\(SqL X.K H p ys\/SqT X.K H p ys)/\Q (.int ys.length) H):=by
 intro pins s σ H xs us Q I r h
 obtain⟨p,ys,rfl,hq,q⟩:=h
 obtain⟨u,rfl,rx⟩:=Qk1 r
 cases rx
 have hn:=Qbn
 rcases hq with hq|hq
 ·obtain⟨its,r',pl,hz⟩:=I.list hq
  have hlen:=r'.length
  exact Calls.call_len_list pl.isList (by simp only[Uo] <;> omega) ⟨.int ys.length,H,I.tok _,⟨s.toks+1,by rw[Uo,hlen]⟩,q⟩
 ·obtain⟨its,r',pl,hz⟩:=I.tuple hq
  have hlen:=r'.length
  exact len_tuple pl (by simp only[Uo] <;> omega) ⟨.int ys.length,H,I.tok _,⟨s.toks+1,by rw[Uo,hlen]⟩,q⟩
theorem CallR.or{f:Value}{r r':List V->Hp->VK->Prop}(h:CallR X f r)(h':CallR X f r'):CallR X f (λxs H Q=>r xs H Q\/r' xs H Q):=by
 intro pins s σ H xs us Q I rs q
 rcases q with q|q
 ·exact h pins s σ H xs us Q I rs q
 ·exact h' pins s σ H xs us Q I rs q
theorem Qc4:CallR X (.type "tuple") (λxs H Q=>∃p ys,xs=[.ref p]/\((SqL X.K H p ys/\∀l,H l=none->Q (.ref l) (upd H l (.tup ys)))\/(SqT X.K H p ys/\Q (.ref p) H))):=by
 intro pins s σ H xs us Q I r h
 obtain⟨p,ys,rfl,h⟩:=h
 obtain⟨u,rfl,rx⟩:=Qk1 r
 cases rx
 rcases h with⟨hq,q⟩|⟨hq,q⟩
 ·obtain⟨its,r',pl,hz⟩:=I.list hq
  have hlen:=r'.length
  refine call_tuple_list pl.isList (λh' kp=>?_) (by simp only[Uo] <;> omega)
  have I1:Inv X pins σ H {s with heap:=h'}:=I.kept (t':=s.toks) kp
  have I2:Inv X pins σ (upd H h'.objs.size (.tup ys)) {s with heap:=h'.push {cls:=.type "tuple",data:=.seq its.toArray} } :=
   I1.laid (t':=s.toks) (λb o e=>Ub _ e) (Ug _) (show ObjOk X.prog X.w _ _ _ (.tup ys) from ⟨hz,its,r',IsTup.new _ _⟩)
  exact⟨.ref h'.objs.size,_,I2,rfl,q _ (I1.hok.fresh (Ug _))⟩
 ·obtain⟨its,r',pl,hz⟩:=I.tuple hq
  exact call_tuple_same pl ⟨.ref p,H,I,rfl,q⟩
def tyV(K:Frag)(T:String)(x:V)(H:Hp):Prop:=match x with
 |.str _=>T = "str"
 |.int _=>T = "int"
 |.ref p=>(T = "list" /\ ∃xs,SqL K H p xs)\/(T = "tuple" /\ ∃o,K.lookup p=some o/\o.cls=.type "tuple" /\ o.dict=none) \/
   (T = "dict" /\ ((∃kvs,H p=some (.dK kvs))\/∃kvs,H p=some (.dT kvs)))\/(T = "set" /\ ∃S n,H p=some (.set S n))
 |_=>False
theorem Qkk{pins:List (Addr×Obj)}{σ:St}{H:Hp}{s:Shared}{T:String}{x:V}{v:Value}(I:Inv X pins σ H s)(r:RelV x v)(ty:tyV X.K T x H):
  s.TypeIs v T/\∀a,v=.ref a->∃ob,s.heap.get? a=some ob/\ob.dict=none:=by
 cases x with
 |str z =>
  obtain⟨t,rfl⟩:=r
  cases (show T = "str" from ty)
  exact⟨typeIs_str s z t,λ_ e=>nomatch e⟩
 |int i =>
  obtain⟨t,rfl⟩:=r
  cases (show T = "int" from ty)
  exact⟨typeIs_int s i t,λ_ e=>nomatch e⟩
 |ref p =>
  cases r
  rcases ty with⟨rfl,xs,hq⟩|⟨rfl,o,hk,hc,hd⟩|⟨rfl,hk⟩|⟨rfl,S,n,hk⟩
  ·obtain⟨its,_,pl,_⟩:=I.list hq
   refine⟨pl.isList.typeIs,λa e=>?_⟩
   cases e
   obtain⟨o,n,e,c,hd,_⟩:=pl
   exact⟨o,e,hd⟩
  ·refine⟨⟨o,I.kIn p o hk,hc⟩,λa e=>?_⟩
   cases e
   exact⟨o,I.kIn _ o hk,hd⟩
  ·have z:∃o,s.heap.get? p=some o/\o.ExactDict:=by
    rcases hk with⟨kvs,hk⟩|⟨kvs,hk⟩
    ·obtain⟨_,_,_,_,o,_,_,e,ex,_⟩:=I.hok p _ hk
     exact⟨o,e,ex⟩
    ·obtain⟨_,_,_,_,o,_,_,e,ex,_⟩:=I.hok p _ hk
     exact⟨o,e,ex⟩
   obtain⟨o,e,ex⟩:=z
   refine⟨⟨o,e,ex.1⟩,λa e2=>?_⟩
   cases e2
   exact⟨o,e,ex.2.1⟩
  ·obtain⟨o,_,_,_,e,ex,_⟩:=I.hok p _ hk
   refine⟨⟨o,e,ex.1⟩,λa e2=>?_⟩
   cases e2
   exact⟨o,e,ex.2.1⟩
 |_=>exact False.elim ty
noncomputable def tBM0(K:Frag)(T:String)(r:V->List V->Hp->VK->Prop)(to:TE):TE:=λσ H Q=>to σ H λx H1=>tyV K T x H1/\r x [] H1 Q
noncomputable def tBM(K:Frag)(T:String)(r:V->List V->Hp->VK->Prop)(to:TE)(t:TA):TE:=λσ H Q=>to σ H λx H1=>tyV K T x H1/\t σ H1 λxs H2=>r x xs H2 Q
variable{o e:Expr}{es:List Expr}{to:TE}{t:TA}{name:Str}{apos cpos:Pos}{T id:String}{r:V->List V->Hp->VK->Prop}
theorem QmM(pa:PlainAttrs T)(slot:Slot T name id)(hty:typeOf (.builtin id)=pure (.type "method_descriptor"))(hm:MtR X id r)(ho:PE X o to)(hbase:attributeBase o name X.env (eval o X.env)=eval o X.env:=by rfl)(hline:(apos.endLine == cpos.line)=true:=by rfl):PE X (.Call (.Attribute o name apos) [] [] cpos) (tBM0 X.K T r to):=by
 intro pins s σ H Q I h
 refine wpAny_Call_method0_late hbase hline (thn (ho pins s σ H _ I h) λv s1 ⟨x,H1,I1,r1,ty,q1⟩=>?_)
 obtain⟨h1,h2⟩:=Qkk I1 r1 ty
 exact⟨T,id,pa,slot,hty,h1,h2,Calls.callWith_builtin rfl (PySem.evalArgs_none (hm pins s1 σ H1 x [] v [] Q I1 r1 .nil q1))⟩
theorem Qk8(pa:PlainAttrs T)(slot:Slot T name id)(hty:typeOf (.builtin id)=pure (.type "method_descriptor"))(hm:MtR X id r)(ho:PE X o to)(ha:PA X (e::es) t)(hbase:attributeBase o name X.env (eval o X.env)=eval o X.env:=by rfl)(hfew:((backTo cpos (starEach (e::es) X.env)).all (λx=>!x.1) && (backToKw cpos (keywordEach [] X.env)).all (λx=>x.1.isSome)
   && decide ((e::es).length+([]:List Keyword).length+(if ([]:List Keyword).isEmpty then 0 else 1)<30))=true:=by rfl)(hline:(apos.endLine == cpos.line)=true:=by rfl)(hs:starEach (e::es) X.env=(false,eval e X.env)::starEach es X.env:=by rfl)(hplain:(backTo cpos (starEach es X.env)).any (·.1)=false:=by rfl):
  PE X (.Call (.Attribute o name apos) (e::es) [] cpos) (tBM X.K T r to t):=by
 intro pins s σ H Q I h
 refine wpAny_Call_method_late hbase hfew hline rfl (thn (ho pins s σ H _ I h) λv s1 ⟨x,H1,I1,r1,ty,q1⟩=>?_)
 obtain⟨h1,h2⟩:=Qkk I1 r1 ty
 refine⟨T,id,pa,slot,hty,h1,h2,?_⟩
 have hA:=ha cpos pins s1 σ H1 _ I1 q1
 rw[hs]at hA ⊢
 refine Calls.callWith_builtin (by show(false || (backTo cpos (starEach es X.env)).any (·.1))=false;rw[hplain] <;> rfl) (Calls.evalArgs_plain ?_)
 exact thn hA λus s2 ⟨vs,H2,I2,r2,q2⟩=>hm pins s2 σ H2 x vs v us Q I2 r1 r2 q2
end
end
section
noncomputable def MtM(X:Cx)(id:String)(r:V->List V->Hp->VK->Prop):Prop :=
 ∀(pins:List (Addr×Obj))(s:Shared)(σ:St)(H:Hp)(x:V)(xs:List V)(v:Value)(us:List Value)(Q:VK),Inv X pins σ H s->RelV x v->Vals xs us->r x xs H Q ->
  wpAny (model X.prog X.w) X.A (call (.builtin id) (v::us)) (EP X pins σ Q) X.xe s
theorem Vals.one:∀{x:V}{us:List Value},Vals [x] us->∃u,us=[u]/\RelV x u
 |_,_,.cons r .nil=>⟨_,rfl,r⟩
theorem Vals.two:∀{x y:V}{us:List Value},Vals [x,y] us->∃u v,us=[u,v]/\RelV x u/\RelV y v
 |_,_,_,.cons r (.cons q .nil)=>⟨_,_,rfl,r,q⟩
theorem Vals.zero:∀{us:List Value},Vals [] us->us=[]
 |_,.nil=>rfl
theorem Vals.dropLast{xs:List V}{us:List Value}(h:Vals xs us):Vals xs.dropLast us.dropLast:=by
 induction h with
 |nil=>exact .nil
 |cons r t ih =>
  cases t with
  |nil=>exact .nil
  |cons q t'=>exact .cons r ih
theorem Vals.eraseIdx:∀{xs:List V}{us:List Value}(i:Nat),Vals xs us->Vals (xs.eraseIdx i) (us.eraseIdx i)
 |_,_,_,.nil=>.nil
 |_,_,0,.cons _ t=>t
 |_,_,i+1,.cons r t=>.cons r (Vals.eraseIdx i t)
theorem Vals.reverse{xs:List V}{us:List Value}(h:Vals xs us):Vals xs.reverse us.reverse:=by
 induction h with
 |nil=>exact .nil
 |cons r t ih=>rw[TQ,TQ];exact Vals.append ih (.cons r .nil)
theorem Qgs{α:Type}(l:List α):l.eraseIdx (l.length-1)=l.dropLast:=by
 induction l with
 |nil=>rfl
 |cons a r ih =>
  cases r with
  |nil=>rfl
  |cons b r =>
   have e:(a::b::r).length-1=((b::r).length-1)+1:=by
    have h1:(a::b::r).length=r.length+2:=rfl
    have h2:(b::r).length=r.length+1:=rfl
    omega
   rw[e,List.eraseIdx_cons_succ,ih]
   all_goals rfl
section
variable{X:Cx}{pins:List (Addr×Obj)}{σ:St}{H:Hp}{s:Shared}{l b:Addr}{xs ys zs:List V}
theorem Inv.lset{its its':List Value}{n:Nat}{f:Array Value->Array Value}{t':Nat}(I:Inv X pins σ H s)(hH:H l=some (.lst xs))(e:s.heap.get? l=some {cls:=.type "list",data:=.seq its.toArray n})(hf:f its.toArray=its'.toArray)(hv:Vals ys its')(hz:ys.length<=sizeLine):
  Inv X pins σ (upd H l (.lst ys)) {s with heap:=s.heap.update l (Obj.mapSeq f),toks:=t'}:=by
 have q:=PySem.IsL.update e f
 rw[hf]at q
 refine I.write (x:=l) (e:=l) (by rw[hH];exact trivial) (.inl rfl) (λb' u hb hu=>(U7 s.heap (Obj.mapSeq f) (Ne.symm hb)).trans hu) ⟨_,q⟩ ?_
 exact⟨hz,its',_,hv,q⟩
theorem Inv.lnew{its:List Value}{t':Nat}(I:Inv X pins σ H s)(hv:Vals ys its)(hz:ys.length<=sizeLine):
  Inv X pins σ (upd H s.heap.objs.size (.lst ys)) {s with heap:=s.heap.push {cls:=.type "list",data:=.seq its.toArray},toks:=t'} :=
 I.laid (λ_ _ q=>Ub _ q) (Ug _) ⟨hz,its,0,hv,Ul _ rfl⟩
theorem Inv.fresh(I:Inv X pins σ H s):H s.heap.objs.size=none:=I.hok.fresh (Ug _)
theorem Inv.lstM(I:Inv X pins σ H s)(hH:H l=some (.lst xs)):xs.length<=sizeLine/\∃(its:List Value)(n:Nat),Vals xs its/\xs.length=its.length/\s.heap.get? l=some {cls:=.type "list",data:=.seq its.toArray n}:=by
 obtain⟨z,its,n,r,e⟩:=I.hok l _ hH
 exact⟨z,its,n,r,r.length,e⟩
end
section
variable{X:Cx}
noncomputable def Qk9:V->List V->Hp->VK->Prop:=λx vs H Q=>∃l xs y,x=.ref l/\vs=[y]/\H l=some (.lst xs)/\xs.length<sizeLine/\Q .non (upd H l (.lst (xs++[y])))
theorem Qhm:MtM X "list.append" Qk9:=by
 intro pins s σ H x vs v us Q I rx rv h
 obtain⟨l,xs,y,rfl,rfl,hH,hz,q⟩:=h
 cases rx
 obtain⟨u,rfl,ru⟩:=rv.one
 obtain⟨z,its,n,r,hl,e⟩:=I.lstM hH
 refine call_meets F.slot_list_append ⟨_,e,rfl⟩ F.entry_list_append (F.args_list_append_2 _ _) (PySem.list_append l its.toArray n u (by rw[Uo];omega)) ⟨e,?_⟩
 refine⟨.non,_,I.lset (its':=its++[u]) hH e (by simp) (r.append (.cons ru .nil)) ?_,rfl,q⟩
 rw[UB,Wv]
 omega
noncomputable def rPop:V->List V->Hp->VK->Prop:=λx vs H Q=>∃l xs y,x=.ref l/\vs=[]/\H l=some (.lst xs)/\xs[xs.length-1]?=some y/\Q y (upd H l (.lst xs.dropLast))
theorem QmN:MtM X "list.pop" rPop:=by
 intro pins s σ H x vs v us Q I rx rv h
 obtain⟨l,xs,y,rfl,rfl,hH,hy,q⟩:=h
 cases rx
 have hus:=rv.zero
 subst hus
 obtain⟨z,its,n,r,hl,e⟩:=I.lstM hH
 obtain⟨u,hu,ru⟩:=r.get hy
 have hy':its.toArray[its.toArray.size-1]?=some u:=by
  show its.toArray[its.length-1]?=some u
  rw[<-Ww,<-hl]
  exact hu
 refine call_meets F.slot_list_pop ⟨_,e,rfl⟩ F.entry_list_pop (F.args_list_pop_1 _) (MeetsSeq.list_pop_last l its.toArray n u hy' (by rw[Uo];omega)) ⟨e,?_⟩
 refine⟨y,_,I.lset (its':=its.dropLast) hH e ?_ r.dropLast ?_,ru,q⟩
 ·show its.toArray.eraseIdxIfInBounds (its.toArray.size-1)=its.dropLast.toArray
  rw[Uo,List.eraseIdxIfInBounds_toArray,Qgs]
 ·rw[WG]
  omega
noncomputable def rCat:R2:=λx y H Q=>∃l b xs zs,x=.ref l/\y=.ref b/\H l=some (.lst xs)/\H b=some (.lst zs)/\xs.length+zs.length<=sizeLine/\∀p,H p=none->Q (.ref p) (upd H p (.lst (xs++zs)))
theorem QmO:OpR X (binaryOp .Add) rCat:=by
 intro pins s σ H x y v u Q I rx ry h
 obtain⟨l,b,xs,zs,rfl,rfl,hH,hB,hz,q⟩:=h
 cases rx
 cases ry
 obtain⟨z,its,n,r,hl,e⟩:=I.lstM hH
 obtain⟨z2,its2,n2,r2,hl2,e2⟩:=I.lstM hB
 refine PySem.P.add_list e e2 ?_ (by rw[Uo,Uo];omega)
 have ea:its.toArray++its2.toArray=(its++its2).toArray:=by simp
 rw[ea]
 exact⟨.ref _,_,I.lnew (t':=s.toks) (r.append r2) (by rw[UB];omega),rfl,q _ I.fresh⟩
end
section
variable{prog:Program}{w:World}{A:Around}{E:Value->Shared->Prop}{s:Shared}
end
section
variable{X:Cx}
end
end
end L2
namespace Att
open PySem PySem.W PySem.Calls PyProof.Rows
theorem QbV{P:Params}{h:Heap}:∀(ns:List Int)(vs:List Value),WellAll P h vs (ns.map WData.int)->IntsAre vs ns:=by
 intro ns
 induction ns with
 |nil =>
  intro vs w
  rw[List.map_nil]at w
  cases w
  exact .nil
 |cons n ns ih =>
  intro vs w
  rw[UH]at w
  cases w with
  |cons a b =>
   cases a
   exact .cons _ _ (ih _ b)
theorem Qhn{l:OpenLaw}{n:Nat}(hn:l.most=some n){P:Params}{h:Heap}{args:List WData}{vals:List Value}(hpre:l.row.toRowW.claim.pre args=true)(hwl:WellAll P h vals args):
  ∃a vs ns,vals=[Value.ref a]/\args=[WData.list (ns.map WData.int)]/\h.get? a=some {cls:=.type "list",data:=.seq vs.toArray}/\IntsAre vs ns/\ns.length<=n:=by
 have hsh:WShape.hasAll [] args [.list .int]=true:=(pre_splitW hpre).1
 have hc:l.pre.holds [] {args:=args}=true:=(pre_splitW hpre).2
 obtain⟨d,r,rfl,h1,h2⟩:=hasAllW_cons hsh
 obtain rfl:=hasAllW_nil h2
 obtain⟨xs,rfl,h3⟩:=hasW_list h1
 obtain⟨ns,rfl⟩:=items_int h3
 have hlen:ns.length<=n:=by
  unfold OpenLaw.pre at hc
  have h4:(WTm.not (.lt (.lit (.int (n:Int))) (.len (.arg 0)))).holds [] {args:=[.list (ns.map .int)]}=true:=by
   have h4:=(holds_andW hc).1
   rw[hn]at h4
   exact h4
  have h5:=condW_of h4 (w_not (w_lt w_lit (w_len_list (w_arg rfl))))
  rw[Um]at h5
  refine TU λq=>?_
  have q':(n:Int)<((ns.length:Nat):Int):=by omega
  first
   | (rw[Us q']at h5;exact absurd h5 (by decide))
   | (simp at h5;omega)
 cases hwl with
 |cons w1 w2 =>
  cases w2
  cases w1 with
  |list ho hall=>exact⟨_,_,ns,rfl,rfl,ho,QbV ns _ hall,hlen⟩
theorem Qho(l:OpenLaw)(args:List WData):l.row.toRowW.claim.post args (.bool true) args=true :=
 postW_of (r:=l.row.toRowW) (X:=(true == true))
  (show WShape.has [] (.bool true) .bool=true by first|rfl|decide|simp[WShape.has,WShape.arms,WShape.armsAll])
  (show(WTm.eq .res (.lit (.bool true))).value [] {args:=args,res:=some (.bool true),after:=args}=some (.bool (true == true)) from w_eq_bool (w_res rfl) w_lit) rfl
theorem attach_call{l:OpenLaw}{n:Nat}{q:Program}{loose:List Str}{XP:(Str->Option Value)->Heap->Prop}{YP:World->Heap->Prop}{d:DefRec}(hn:l.most=some n)(hdf:d.params.defaults=[])(call:∀(w:World) (s₀ s₁:Shared) (mg mb:Str->Option Value) (fa:Addr) (o:Obj) (pm cd doc:Value) (a:Addr) (vs:List Value) (ns:List Int),
   Ground q loose [] XP w s₀ mg mb s₁.heap->YP w s₁.heap ->
   s₁.heap.get? fa=some o->o.data=.func (docDef d.name d.params d.body d.scope pm cd doc)->s₁.heap.CodeRec cd d.name->mg d.name=some (.ref fa) ->
   s₁.heap.get? a=some {cls:=.type "list",data:=.seq vs.toArray}->IntsAre vs ns->ns.length<=n->s₁.gens = #[] ->
   codeAny (model l.prog w) callerA (.call (.ref fa) ⟨[.ref a],[]⟩) (λr s'=>r=.ok (.ret (.bool true))/\OldK s₁.heap s'.heap/\s'.os=s₁.os/\AllBare s'.gens) s₁):
  WalkO q loose XP YP l.row.toRowW d [] (λf vs=>PySem.call f vs):=by
 intro w s₀ s₁ mg mb G Y fa o pm cd doc dV kV ho hd hcd hD hmg hg args vals as hpre hlay hrd hwl hlo
 obtain rfl:dV=.none:=Dflts.none hD hdf
 obtain rfl:kV=.none:=Dflts.noKw hD
 obtain⟨a,vs,ns,rfl,rfl,hobj,hints,hlen⟩:=Qhn hn hpre hwl
 refine enter_call (Wn (call w s₀ s₁ mg mb fa o pm cd doc a vs ns G Y ho (fd_plain hd) hcd hmg hobj hints hlen hg) λr s' hq=>?_)
 obtain⟨rfl,h2,h3,h4⟩:=hq
 exact⟨.inl ⟨.bool true,.bool true,[],rfl,λ_=>rfl,.bool true,Qho l _,λ_=>⟨List.Pairwise.nil,λ_ hm=>(nomatch hm)⟩⟩,h2,h3,h4⟩
section
variable{prog:Program}{w:World}{A:Around}{E:Value->Shared->Prop}{s:Shared}{K:Frag}
end
end Att
namespace L2
open PySem PySem.Spec PyProof.Rows
section
theorem QdW:∀{vs:List Value}{ns:List Int},IntsAre vs ns->Vals (ns.map V.int) vs
 |_,_,.nil=>.nil
 |_,_,.cons n t h=>.cons ⟨t,rfl⟩ (QdW h)
def Only(H:Hp):Prop:=∀b,H b=none\/∃o xs,H b=some (.frz o (.lst xs))
theorem Qi5{P:Program}{w:World}{K:Frag}{mg mb:Str->Option Value}{CX:CXT}{k:Nat}{fa a:Addr}{fd:FuncData}{x:Str}{sp:Sp}{s₁:Shared}{vs:List Value}{ns:List Int}(KX:K.In s₁.heap)(hns:s₁.heap.Ns mainGlobals mg)(hb:s₁.heap.Ns builtinsNs mb)(hbb:∀x:Str,x ≠ "__name__" -> mb x=bootBuiltins x)(hlim:s₁.heap.NoLimit)(hg:s₁.gens = #[])(ha:s₁.heap.get? a=some {cls:=.type "list",data:=.seq vs.toArray})(hi:IntsAre vs ns)(hl:ns.length<=sizeLine)(hr:Room k callerA)(F:∀base:Heap,K.In base->base.Ns mainGlobals mg->FnOk P w K mg base CX k fa fd [x] sp)(hbind:∀(s:Shared) (u:Value),BindsTo s fd ⟨[u],[]⟩ [(x,u)])(hsp:∀H:Hp,Only H->SqL K H a (ns.map V.int)->sp [.ref a] H (λv _=>v=.bl true) λ_ _ _=>False)(hCX:∀H e s',CX [] H s₁ (λ_ _ _=>False) e s'->False):
  codeAny (model P w) callerA (.call (.ref fa) ⟨[.ref a],[]⟩) (λr s'=>r=.ok (.ret (.bool true))/\OldK s₁.heap s'.heap/\s'.os=s₁.os/\AllBare s'.gens) s₁:=by
 have rv:=QdW hi
 have lenV:=hi.length
 -- from an abstract heap in which nothing but the script may be tracked
 have core:∀H:Hp,Only H->SqL K H a (ns.map V.int)->HOk P w H s₁.heap->(∀b,H b≠none->b=a)->(H a≠none->K.lookup a=none) ->
   codeAny (model P w) callerA (.call (.ref fa) ⟨[.ref a],[]⟩) (λr s'=>r=.ok (.ret (.bool true))/\OldK s₁.heap s'.heap/\s'.os=s₁.os/\AllBare s'.gens) s₁:=by
  intro H hO hS hok hA hK
  have base_of:∀{b:Addr}{o:Obj},s₁.heap.get? b=some o->H b=none->(hidT s₁.heap H).get? b=some o:=λe n=>QiU e n
  have noA:∀{b:Addr}{o:Obj}{es:Array DictEntry}{ep:Nat},s₁.heap.get? b=some o->o.data=.dict es ep->H b=none:=λ{b o es ep} e d=>by
   cases q:H b with
   |none=>rfl
   |some u =>
    have e':b=a:=hA b (by rw[q];simp)
    subst e'
    rw[ha]at e;cases e
    have d':Data.seq vs.toArray _=Data.dict es ep:=d
    cases d'
  have nsK:∀{b:Addr}{m:Str->Option Value},s₁.heap.Ns b m->(hidT s₁.heap H).Ns b m:=λ{b m} ⟨o,es,ep,e,d,r⟩=>⟨o,es,ep,base_of e (noA e d),d,r⟩
  have hKb:K.In (hidT s₁.heap H):=λb o e=>base_of (KX b o e) (by
   cases q:H b with
   |none=>rfl
   |some u =>
    have e':b=a:=hA b (by rw[q];simp)
    subst e'
    rw[hK (by rw[q];simp)]at e;cases e)
  have hM:Mod K mg (hidT s₁.heap H):=⟨hKb,nsK hns,⟨mb,nsK hb,hbb⟩,let ⟨mc,h1,h2⟩:=hlim;⟨mc,nsK h1,h2⟩⟩
  have e0:Env0 P w K mg (hidT s₁.heap H) callerA [] s₁ H:=⟨rfl,hM,λb o e=>QkO e,Nat.le_of_eq (Qg3 _ _),trivial,λb hb=>absurd (show b∈([]:List Addr) from hb) (by simp),hok,.of_eq hg⟩
  refine Wn ((F _ hKb (nsK hns)).run callerA [] s₁ H ⟨[.ref a],[]⟩ [.ref a] [.ref a] _ _ hr e0 (hbind s₁ (.ref a)) (.cons rfl .nil) (hsp H hO hS)) λr s' h=>?_
  cases r with
  |error e=>exact(hCX H e s' h).elim
  |ok fl =>
   cases fl with
   |next=>exact False.elim h
   |brk=>exact False.elim h
   |cont=>exact False.elim h
   |ret u =>
    obtain⟨v,H',os,bare,un,hok',r',q⟩:=h
    have q':v=.bl true:=q
    subst q'
    obtain rfl:u=Value.bool true:=r'
    refine⟨rfl,OldK.of_keep λb o e=>?_,os,bare⟩
    cases q:H b with
    |none=>exact un.keep b o e q (by intro z;exact absurd (show b∈([]:List Addr) from z) (by simp)) (by simp)
    |some u =>
     rcases hO b with z|⟨ob,xs,z⟩
     ·rw[q]at z;cases z
     ·have z2:=un.frzs b ob _ z
      obtain⟨e1,_⟩:=hok b _ z
      obtain⟨e2,_⟩:=hok' b _ z2
      rw[e]at e1;cases e1
      exact e2
 cases hk:K.lookup a with
 |some o =>
  -- the script is one of the module's own objects
  have e:=KX a o hk
  rw[ha]at e
  cases e
  refine core (λ_=>none) (λ_=>.inl rfl) (.inr ⟨_,vs.toArray,_,hk,rfl,rfl,rfl,by rw[Uo,lenV];exact hl,by simpa using rv⟩) (λb u z=>by have z':(none:Option HO)=some u:=z;cases z') (λb z=>absurd rfl z) λz=>absurd rfl z
 |none =>
  refine core (λb=>if b=a then some (.frz {cls:=.type "list",data:=.seq vs.toArray} (.lst (ns.map V.int))) else none) (λb=>?_) (.inl (.inr ⟨{cls:=.type "list",data:=.seq vs.toArray},Uc rfl⟩)) (λb u z=>?_) (λb z=>?_) λ_=>hk
  ·by_cases hb:b=a
   ·exact .inr ⟨_,_,Uc hb⟩
   ·exact .inl (Uh hb)
  ·by_cases hb:b=a
   ·have z':=(Uc hb).symm.trans z
    cases z'
    subst hb
    exact⟨ha,by rw[Um];exact hl,vs,_,rv,ha⟩
   ·have z':=(Uh hb).symm.trans z
    cases z'
  ·by_cases hb:b=a
   ·exact hb
   ·exact absurd (Uh hb) z
end
section
theorem walk_of{l:PySem.W.OpenLaw}{n k:Nat}{q:Program}{loose:List Str}{XP:(Str->Option Value)->Heap->Prop}{YP:World->Heap->Prop}{d:DefRec}{K:Params->Frag}{CX:World->CXT}{sp:World->Sp}{x:Str}(hn:l.most=some n)(hn2:n<=sizeLine)(hdf:d.params.defaults=[])(hr:Room k callerA)(hY:∀(w:World) (h:Heap),YP w h->(K w.params).In h)(F:∀(w:World) (mg:Str->Option Value) (fa:Addr) (h:Heap),(K w.params).In h->h.Ns mainGlobals mg->mg d.name=some (.ref fa) ->
   ∃fd:FuncData,(∀(s:Shared) (u:Value),BindsTo s fd ⟨[u],[]⟩ [(x,u)]) /\
    ∀base:Heap,(K w.params).In base->base.Ns mainGlobals mg->FnOk l.prog w (K w.params) mg base (CX w) k fa fd [x] (sp w))(hsp:∀(w:World) (H:Hp) (a:Addr) (ns:List Int),ns.length<=n->Only H->SqL (K w.params) H a (ns.map V.int)->sp w [.ref a] H (λv _=>v=.bl true) λ_ _ _=>False)(hCX:∀(w:World) (H:Hp) (s:Shared) (e:Value) (s':Shared),CX w [] H s (λ_ _ _=>False) e s'->False):
  PySem.W.WalkO q loose XP YP l.row.toRowW d [] (λf vs=>PySem.call f vs):=by
 refine Att.attach_call hn hdf λw s₀ s₁ mg mb fa o pm cd doc a vs ns G Y ho hd hcd hmg hobj hints hlen hg=>?_
 have KX:=hY w _ Y
 obtain⟨fd,hb,hF⟩:=F w mg fa _ KX G.T.g hmg
 exact Qi5 KX G.T.g G.T.b G.T.builtins G.T.nolimit hg hobj hints (Ux hlen hn2) hr hF hb (λH hO hS=>hsp w H a ns hlen hO hS) λH e s'=>hCX w H s₁ e s'
end
section
noncomputable def Y1(s:Stmt)(j:Nat):Stmt:=match s with
 |.ClassDef _ _ _ body _ _ _ _ _ _ _=>body.getD j (.Pass ⟨0,0,0,0⟩)
 |_=>.Pass ⟨0,0,0,0⟩
noncomputable def Zq(s:Stmt):Arguments:=match s with
 |.FunctionDef _ a _ _ _ _ _ _ _ _=>a
 |_=>{posonlyargs:=[],args:=[],vararg:=none,kwonlyargs:=[],kw_defaults:=[],kwarg:=none,defaults:=[]}
noncomputable def Q6(s:Stmt):List Stmt:=match s with
 |.FunctionDef _ _ b _ _ _ _ _ _ _=>b
 |_=>[]
noncomputable def Qd(s:Stmt):Scope:=match s with
 |.FunctionDef _ _ _ _ _ _ sc _ _ _=>sc
 |_=>{kind:=.function,names:=[],isGenerator:=false,isCoroutine:=false}
noncomputable abbrev CX0:CXT:=λ_ _ _ _ _ _=>False
structure Fun(K:Frag)(x qual:Str)(st:Stmt)(f:Addr)(fd:FuncData):Prop where
 ex:∃(oc:Value)(od:Option Addr)(kV doc pm:Value)(an:Option Addr)(cdv ct:Value)(osl:Array (Option Value)),
  fd=fnOf x qual (Zq st) (Q6 st) (Qd st) .none kV doc pm an cdv ct/\K.lookup f=some ⟨oc,od,.func fd,osl⟩/\codeIn K cdv qual=true
 kp:keepIn K (.ref f)=true
section
variable{P:Program}{w:World}{K:Frag}{mg:Str->Option Value}{base:Heap}
theorem Fun.ok{x qual:Str}{st:Stmt}{f:Addr}{fd:FuncData}{N ps:List Str}{k:Nat}{sp:Sp}(F:Fun K x qual st f fd)(S:FnScope N ps (Qd st))(len:∀vs H Q E,sp vs H Q E->vs.length=ps.length)(hbody:∀(cdv:Value) (A:Around) (outer:List Env) (s:Shared) (H:Hp) (vs:List V) (Q:VK) (E:XK),Room k (A.deeper (envOfC qual (Qd st) s.heap.objs.size f cdv))->sp vs H Q E ->
   ∃t,PSs (cxOf CX0 P w K mg base N qual (Qd st) f cdv A outer s H E).nox (Q6 st) t/\t {nx:=λ_ H'=>Q .non H',rt:=Q} (start N vs) H):FnOk P w K mg base CX0 (k+1) f fd ps sp:=by
 obtain⟨oc,od,kV,doc,pm,an,cdv,ct,osl,rfl,lk,hcd⟩:=F.ex
 refine QmH lk hcd S len λA outer s H vs Q E hr hsp=>?_
 obtain⟨t,h,q⟩:=hbody cdv A outer s H vs Q E hr hsp
 exact⟨t,h.nox,q⟩
theorem Fun.binds{x qual:Str}{st:Stmt}{f:Addr}{fd:FuncData}{ps:List Str}(F:Fun K x qual st f fd)(h:∀(kV doc pm:Value) (an:Option Addr) (cdv ct:Value) (us:List Value),us.length=ps.length->bindArgs (fnOf x qual (Zq st) (Q6 st) (Qd st) .none kV doc pm an cdv ct) ⟨us,[]⟩=pure (ps.zip us)):Binds K fd ps []:=by
 obtain⟨oc,od,kV,doc,pm,an,cdv,ct,osl,rfl,lk,hcd⟩:=F.ex
 exact .all (h kV doc pm an cdv ct)
theorem Jx{x qual:Str}{st:Stmt}{f:Addr}{oc:Value}{od an:Option Addr}{osl:Array (Option Value)}{kV doc pm cdv ct:Value}(l:K.lookup f=some ⟨oc,od,.func (fnOf x qual (Zq st) (Q6 st) (Qd st) .none kV doc pm an cdv ct),osl⟩)(c:codeIn K cdv qual=true)(k:keepIn K (.ref f)=true):Fun K x qual st f (fnOf x qual (Zq st) (Q6 st) (Qd st) .none kV doc pm an cdv ct):=⟨⟨oc,od,kV,doc,pm,an,cdv,ct,osl,rfl,l,c⟩,k⟩
end
section
variable{X:Cx}
end
def Same(H H':Hp):Prop:=∀b o,H b=some o->H' b=some o
theorem Same.refl(H:Hp):Same H H:=λ_ _ h=>h
theorem Same.trans{H H1 H2:Hp}(a:Same H H1)(b:Same H1 H2):Same H H2:=λc o h=>b c o (a c o h)
theorem Same.free{H H':Hp}(e:Same H H'){l:Addr}(h:H' l=Option.none):H l=Option.none:=by
 cases q:H l with
 |none=>rfl
 |some o =>
  rw[e l o q]at h
  cases h
theorem Same.seq{K:Frag}{H H':Hp}{a:Addr}{xs:List V}(e:Same H H')(h:SqL K H a xs):SqL K H' a xs:=by
 rcases h with(h|⟨o,h⟩)|h
 ·exact .inl (.inl (e _ _ h))
 ·exact .inl (.inr ⟨o,e _ _ h⟩)
 ·exact .inr h
end
end L2
set_option maxHeartbeats 4000000
namespace NK
open PySem PyProof.Rows
structure VK(prog:Program)(w:World)(K:Type)[DecidableEq K] where
 is:Heap->K->Value->Prop
 hash:K->Int
 draws:K->Nat
 dep:Nat
 inj:∀{h:Heap}{v:Value}{x y:K},is h x v->is h y v->x=y
 keeps:∀{h h':Heap}{k:K}{v:Value},is h k v->(∀b o i n,h.get? b=some o->o.data=.seq i n->h'.get? b=some o)->is h' k v
 pyHash:∀{A:Around}{E:Value->Shared->Prop}{s:Shared}{k:K}{v:Value}{Q:Int->Shared->Prop},A.units+dep<cLine->is s.heap k v->Q (hash k) {s with toks:=s.toks+draws k}->wpAny (model prog w) A (PySem.pyHash v) Q E s
 eqBool:∀{A:Around}{E:Value->Shared->Prop}{s:Shared}{x y:K}{u v:Value}{Q:Bool->Shared->Prop},A.units+dep<cLine->is s.heap x u->is s.heap y v->Q (decide (x=y)) s->wpAny (model prog w) A (PySem.eqBool u v) Q E s
 quiet:∀{A:Around}{E:Value->Shared->Prop}{s:Shared}{k:K}{v:Value}{Q:Bool->Shared->Prop}(n:Nat),dep<=n->is s.heap k v->Q true s->wpAny (model prog w) A (eqIsQuiet n v) Q E s
section
variable{prog:Program}{w:World}{A:Around}{E:Value->Shared->Prop}{s:Shared}
noncomputable def intV(prog:Program)(w:World):VK prog w Int where
 is:=λ_ k v=>Value.isInt k v=true
 hash:=hashInt
 draws:=λ_=>1
 dep:=0
 inj:=λhx hy=>(intKind prog w).inj _ _ _ hx hy
 keeps:=λh _=>h
 pyHash:=λ_ hv h=>(intKind prog w).pyHash hv h
 eqBool:=λ_ hu hv h=>(intKind prog w).eqBool hu hv h
 quiet:=λn _ hv h=>by rw[eqIsQuiet_byValue n ((intKind prog w).byValue _ _ hv)];exact Uj h
def Tp(h:Heap)(a:Addr)(us:List Value):Prop:=∃o items n,h.get? a=some o/\o.cls=.type "tuple" /\ o.data=.seq items n/\items.toList=us
theorem Tp.typeIs{a:Addr}{us:List Value}(x:Tp s.heap a us):s.TypeIs (.ref a) "tuple":=let ⟨o,_,_,ho,hc,_⟩:=x;⟨o,ho,hc⟩
theorem Tp.inj{h:Heap}{a:Addr}{us vs:List Value}(x:Tp h a us)(y:Tp h a vs):us=vs:=by
 obtain⟨o,i,n,ho,_,hd,rfl⟩:=x
 obtain⟨o',i',n',ho',_,hd',rfl⟩:=y
 obtain rfl:o=o':=Option.some.inj (ho.symm.trans ho')
 rw[hd]at hd'
 injection hd' with h1 _
 rw[h1]
theorem Tp.keeps{h h':Heap}{a:Addr}{us:List Value}(x:Tp h a us)(k:∀b o i n,h.get? b=some o->o.data=.seq i n->h'.get? b=some o):Tp h' a us :=
 let ⟨o,i,n,ho,hc,hd,e⟩:=x;⟨o,i,n,k a o i n ho hd,hc,hd,e⟩
def Qkl(prog:Program)(w:World)(dep:Nat)(h:Heap)(p:Int×Nat)(v:Value):Prop:=∀{A:Around}{E:Value->Shared->Prop}{s:Shared}{Q:Int->Shared->Prop},s.heap=h->A.units+dep<cLine->Q p.1 {s with toks:=s.toks+p.2}->wpAny (model prog w) A (PySem.pyHash v) Q E s
inductive Al{α β:Type}(R:α->β->Prop):List α->List β->Prop
 |nil:Al R [] []
 |cons {a:α} {b:β} {as:List α} {bs:List β}:R a b->Al R as bs->Al R (a::as) (b::bs)
theorem Al.len{α β:Type}{R:α->β->Prop}{as:List α}{bs:List β}(h:Al R as bs):as.length=bs.length:=by
 induction h with
 |nil=>rfl
 |cons _ _ ih=>simp[ih]
noncomputable def sumN(ps:List (Int×Nat)):Nat:=(ps.map (·.2)).sum
theorem Qfy{dep:Nat}{a:Addr}{us:List Value}{ps:List (Int×Nat)}{Q:Int->Shared->Prop}(hu:A.units+(dep+1)<cLine)(ht:Tp s.heap a us)(hi:Al (Qkl prog w dep s.heap) ps us)(h:Q (reduceHash (Builtin.Tuple.tupleHashOf (ps.map (·.1)))) {s with toks:=s.toks+(sumN ps+1)}):wpAny (model prog w) A (PySem.pyHash (.ref a)) Q E s:=by
 have hT:=ht.typeIs
 obtain⟨o,items,n,ho,_,hd,rfl⟩:=ht
 unfold PySem.pyHash
 first|unfold pyHashByItsType|skip
 first|refine Ua (wpAny_cRoomFor_or (.inr (by omega)) ?_)|skip
 refine Ua (Tt hT Rh.lookup ?_)
 show wpAny _ _ (if (some (Value.builtin "tuple.__hash__") == some Value.none)=true then _ else _) Q E s
 rw[Uh (by rw[beq_builtin_none];exact Ud)]
 refine Ua (Tt hT Rh.lookup ?_)
 show wpAny _ _ (callSpecialIfBoundUnlessNone? (.ref a) "__hash__" _ >>= _) Q E s
 refine Ua (wpAny_callSpecialIfBoundUnlessNone?_slot hT Rh (Tg Rh hT F.entry_tuple_hash ?_ (F.args_tuple_hash_1 _)))
 show wpAny _ _ (Builtin.Tuple.tupleItemsOf (.ref a) >>= _) _ _ s
 refine Ua (RN ho hd ?_)
 refine Ua ?_
 rw[<-Array.forIn_toList]
 refine We _
  (λrest (b:Array Int) s'=>∃done left,ps=done++left/\Al (Qkl prog w dep s.heap) left rest/\b.toList=done.map (·.1)/\s' = {s with toks:=s.toks+sumN done})
  _ ?_ ?_ _ _ ⟨[],ps,rfl,hi,rfl,rfl⟩
 ·rintro x rest b s' ⟨done,left,rfl,hl,hb,rfl⟩
  cases hl with
  |@cons p _ ps' _ h1 hl' =>
   refine Ua (h1 rfl (by show A.units+1+dep<cLine;omega) ?_)
   first
    |exact Uj ⟨done++[p],ps',by simp,hl',by simp[hb],by simp[sumN,RX]⟩
    |exact Ua (Uj (Uj ⟨done++[p],ps',by simp,hl',by simp[hb],by simp[sumN,RX]⟩))
 ·rintro b s' ⟨done,left,rfl,hl,hb,rfl⟩
  cases hl
  rw[U6]at h
  show wpAny _ _ (retInt (Builtin.Tuple.tupleHashOf b.toList)) _ _ _
  rw[hb]
  refine wpAny_ret_mkInt ?_
  show wpAny _ _ (if (decide (-(2:Int) ^ 63<=Builtin.Tuple.tupleHashOf (done.map (·.1))) && decide (Builtin.Tuple.tupleHashOf (done.map (·.1))<2^63))=true then _ else _) Q E _
  unfold reduceHash at h
  by_cases hr:(decide (-(2:Int) ^ 63<=Builtin.Tuple.tupleHashOf (done.map (·.1))) && decide (Builtin.Tuple.tupleHashOf (done.map (·.1))<2^63))=true
  ·rw[Uc hr]
   rw[Uc hr]at h
   exact Uj (by simpa[RX]using h)
  ·rw[Uh hr]
   rw[Uh hr]at h
   exact Ua (Ro (Uj (by simpa[RX]using h)))
def EqAt(prog:Program)(w:World)(dep:Nat)(h:Heap)(b:Bool)(p:Value×Value):Prop:=∀{A:Around}{E:Value->Shared->Prop}{s:Shared}{Q:Bool->Shared->Prop},s.heap=h->A.units+dep<cLine->Q b s->wpAny (model prog w) A (PySem.eqBool p.1 p.2) Q E s
theorem Qkm{dep:Nat}{a c:Addr}{us vs:List Value}{bs:List Bool}{r:Bool}{Q:Bool->Shared->Prop}(hu:A.units+(dep+1)<cLine)(hx:Tp s.heap a us)(hy:Tp s.heap c vs)(hi:Al (EqAt prog w dep s.heap) bs (us.zip vs))(hr:r=(bs.all id && (us.length == vs.length)))(hs:a=c->r=true)(h:Q r s):wpAny (model prog w) A (PySem.eqBool (.ref a) (.ref c)) Q E s:=by
 unfold PySem.eqBool
 try with_reducible refine Rn ?_
 show wpAny _ _ (if (Value.ref a == Value.ref c)=true then _ else _) Q E s
 by_cases hab:(Value.ref a == Value.ref c)=true
 ·rw[Uc hab]
  have e:a=c:=by have:=eq_of_beq hab;injection this
  rw[hs e]at h
  exact Ua (Ro (Uj (by simpa using h)))
 ·rw[Uh hab]
  have hTa:=hx.typeIs
  have hTb:=hy.typeIs
  obtain⟨oa,xs,na,hoa,_,hda,rfl⟩:=hx
  obtain⟨ob,ys,nb,hob,_,hdb,rfl⟩:=hy
  refine Ua (wpAny_richCompare_same_room (op:=.Eq) hTa hTb Wr (Tg Wr hTa F.entry_tuple_eq ?_ (F.args_tuple_eq_2 _ _)) (by omega))
  show wpAny _ _ (isInstance (.ref c) (.type "tuple") >>= _) _ _ s
  refine Ua (TV hTb isSubtype_tuple_tuple ?_)
  simp only[Rq,Tj,Rm]
  refine Ua (RN hoa hda ?_)
  refine Ua (RN hob hdb ?_)
  refine Ua ?_
  have fin:wpAny (model prog w) A.in1 (pure (Fin.done (.ret (.bool r)))) (λfin s'=>∃v,fin=.done (.ret v)/\v≠.notImplemented/\wpAny (model prog w) A (truthy v) Q E s') E s:=Uj ⟨_,rfl,(λe=>nomatch e),U9 h⟩
  refine We _
   (λrest q s'=>q.1=none/\s'=s/\∃bs',Al (EqAt prog w dep s.heap) bs' rest/\(bs'.all id && (xs.toList.length == ys.toList.length))=r)
   _ ?_ ?_ _ _ ⟨rfl,rfl,bs,hi,hr.symm⟩
  ·rintro ⟨u,v⟩ rest q s' ⟨hq,rfl,bs',hb,hdec⟩
   cases hb with
   |@cons b1 _ bs'' _ h1 hb' =>
    refine Ua (h1 rfl (by show A.units+1+dep<cLine;omega) ?_)
    cases b1 with
    |true =>
     simp only[Rq,Tj,Rm]
     exact Uj ⟨rfl,rfl,bs'',hb',by simpa using hdec⟩
    |false =>
     simp only[Bool.not_false,RC]
     have hf:r=false:=by rw[<-hdec];simp
     rw[hf]at h
     exact Ua (Uj (Uj (Uj ⟨_,rfl,(λe=>nomatch e),U9 h⟩)))
  ·rintro ⟨r1,r2⟩ s' ⟨hq,rfl,bs',hb,hdec⟩
   simp only at hq
   subst hq
   cases hb
   refine Uj ⟨_,rfl,(λe=>nomatch e),U9 ?_⟩
   have:(xs.size == ys.size)=r:=by simpa using hdec
   rw[this];exact h
theorem QdX{a:Addr}{us:List Value}{Q:Bool->Shared->Prop}(n:Nat)(ht:Tp s.heap a us)(hi:∀v∈us,∀{A:Around} {E:Value->Shared->Prop} {Q:Bool->Shared->Prop},Q true s->wpAny (model prog w) A (eqIsQuiet n v) Q E s)(h:Q true s):wpAny (model prog w) A (eqIsQuiet (n+1) (.ref a)) Q E s:=by
 have hT:=ht.typeIs
 obtain⟨o,items,k,ho,_,hd,rfl⟩:=ht
 unfold eqIsQuiet
 refine Ua (Tt hT Wr.lookup ?_)
 show wpAny _ _ (isInstance (.ref a) (.type "tuple") >>= _) _ _ s
 refine Ua (TV hT isSubtype_tuple_tuple ?_)
 simp only[Rq,Tj,Rm]
 refine Ua (Tr ho hd ?_)
 refine Ua ?_
 show wpAny _ _ (forIn items _ _) _ _ s
 rw[<-Array.forIn_toList]
 refine We _ (λrest r s'=>r.1=none/\s'=s/\∀v∈rest,v∈items.toList) _ ?_ ?_ _ _ ⟨rfl,rfl,λv hv=>hv⟩
 ·rintro v rest r s' ⟨hr,rfl,hall⟩
  refine Ua (hi v (hall v Ur) ?_)
  simp only[Rq,Tj,Rm]
  exact Uj ⟨rfl,rfl,λu hu'=>hall u (Ut _ hu')⟩
 ·rintro ⟨r1,r2⟩ s' ⟨hr,rfl,_⟩
  simp only at hr
  subst hr
  exact Uj h
theorem Al.map{α β γ:Type}{R:α->β->Prop}{S:γ->β->Prop}{f:α->γ}{as:List α}{bs:List β}(h:Al R as bs)(g:∀a b,R a b->S (f a) b):Al S (as.map f) bs:=by
 induction h with
 |nil=>exact .nil
 |cons a _ ih=>exact .cons (g _ _ a) ih
theorem Al.imp{α β:Type}{R S:α->β->Prop}{as:List α}{bs:List β}(h:Al R as bs)(g:∀a b,R a b->S a b):Al S as bs:=by
 induction h with
 |nil=>exact .nil
 |cons a _ ih=>exact .cons (g _ _ a) ih
theorem Al.mem{α β:Type}{R:α->β->Prop}{as:List α}{bs:List β}(h:Al R as bs):∀b∈bs,∃a,R a b:=by
 induction h with
 |nil=>intro b hb;cases hb
 |cons a _ ih=>intro b hb;rcases Uu.mp hb with rfl|z;exact⟨_,a⟩;exact ih b z
variable{K:Type}[DecidableEq K]
theorem Qkn{v:VK prog w K}{h:Heap}{x y:List K}{us:List Value}(hx:Al (v.is h) x us)(hy:Al (v.is h) y us):x=y:=by
 induction hx generalizing y with
 |nil=>cases hy;rfl
 |cons a _ ih=>cases hy with|cons b t=>rw[v.inj a b,ih t]
theorem QnY{v:VK prog w K}{h:Heap}{x y:List K}{us vs:List Value}(hx:Al (v.is h) x us)(hy:Al (v.is h) y vs):∃bs,Al (EqAt prog w v.dep h) bs (us.zip vs)/\decide (x=y)=(bs.all id && (us.length == vs.length)):=by
 induction hx generalizing y vs with
 |nil=>cases hy with
  |nil=>exact⟨[],.nil,by simp⟩
  |cons _ _=>exact⟨[],.nil,by simp⟩
 |@cons k u ks us' a t ih=>cases hy with
  |nil=>exact⟨[],.nil,by simp⟩
  |@cons k2 u2 ks2 us2 b t2 =>
   obtain⟨bs,h1,h2⟩:=ih t2
   refine⟨decide (k=k2)::bs,.cons (λ{A E s Q} e hu q=>v.eqBool hu (by rw[e];exact a) (by rw[e];exact b) q) h1,?_⟩
   rw[T6,UN,UN]
   by_cases hk:k=k2
   ·by_cases hks:ks=ks2 <;> simp[hk,hks]at h2 ⊢ <;> simpa using h2
   ·simp[hk]
noncomputable def lstV(v:VK prog w K):VK prog w (List K) where
 is:=λh ks u=>∃a us,u=.ref a/\Tp h a us/\Al (v.is h) ks us
 hash:=λks=>reduceHash (Builtin.Tuple.tupleHashOf (ks.map v.hash))
 draws:=λks=>(ks.map v.draws).sum+1
 dep:=v.dep+1
 inj:=λ{h u x y} hx hy=>by
  obtain⟨a,us,rfl,t1,i1⟩:=hx
  obtain⟨b,vs,e,t2,i2⟩:=hy
  injection e with e;subst e
  obtain rfl:=t1.inj t2
  exact Qkn i1 i2
 keeps:=λ{h h' k u} hx kp=>by
  obtain⟨a,us,rfl,t1,i1⟩:=hx
  exact⟨a,us,rfl,t1.keeps kp,i1.imp λ_ _ q=>v.keeps q kp⟩
 pyHash:=λ{A E s k u Q} hu hx h=>by
  obtain⟨a,us,rfl,t1,i1⟩:=hx
  refine Qfy (ps:=k.map λx=>(v.hash x,v.draws x)) hu t1 (i1.map λx y q=>λ{A E s Q} e hu h=>v.pyHash hu (by rw[e];exact q) h) ?_
  simpa[sumN,Function.comp_def]using h
 eqBool:=λ{A E s x y u z Q} hu hx hy h=>by
  obtain⟨a,us,rfl,t1,i1⟩:=hx
  obtain⟨b,vs,rfl,t2,i2⟩:=hy
  obtain⟨bs,h1,h2⟩:=QnY i1 i2
  refine Qkm hu t1 t2 h1 h2 (λe=>?_) h
  subst e
  obtain rfl:=t1.inj t2
  exact Us (Qkn i1 i2)
 quiet:=λ{A E s k u Q} n hn hx h=>by
  obtain⟨a,us,rfl,t1,i1⟩:=hx
  obtain⟨n,rfl⟩:∃j,n=j+1:=⟨n-1,by omega⟩
  exact QdX n t1 (λv' hv' {A E Q} q=>let ⟨_,hq⟩:=i1.mem v' hv';v.quiet n (by omega) hq q) h
variable{K2 K3:Type}[DecidableEq K2][DecidableEq K3]
theorem up{dep dep':Nat}(h:dep<=dep'){A:Around}(hu:A.units+dep'<cLine):A.units+dep<cLine:=by omega
noncomputable def triV(a:VK prog w K)(b:VK prog w K2)(c:VK prog w K3):VK prog w (K×K2×K3) where
 is:=λh k u=>∃r x y z,u=.ref r/\Tp h r [x,y,z]/\a.is h k.1 x/\b.is h k.2.1 y/\c.is h k.2.2 z
 hash:=λk=>reduceHash (Builtin.Tuple.tupleHashOf [a.hash k.1,b.hash k.2.1,c.hash k.2.2])
 draws:=λk=>a.draws k.1+(b.draws k.2.1+c.draws k.2.2)+1
 dep:=max a.dep (max b.dep c.dep)+1
 inj:=λ{h u x y} hx hy=>by
  obtain⟨r,x1,x2,x3,rfl,t1,i1,i2,i3⟩:=hx
  obtain⟨r',y1,y2,y3,e,t2,j1,j2,j3⟩:=hy
  injection e with e;subst e
  have:=t1.inj t2
  injection this with e1 this;injection this with e2 this;injection this with e3 this
  subst e1 e2 e3
  obtain⟨k1,k2,k3⟩:=x
  obtain⟨l1,l2,l3⟩:=y
  rw[show k1=l1 from a.inj i1 j1,show k2=l2 from b.inj i2 j2,show k3=l3 from c.inj i3 j3]
 keeps:=λ{h h' k u} hx kp=>by
  obtain⟨r,x1,x2,x3,rfl,t1,i1,i2,i3⟩:=hx
  exact⟨r,x1,x2,x3,rfl,t1.keeps kp,a.keeps i1 kp,b.keeps i2 kp,c.keeps i3 kp⟩
 pyHash:=λ{A E s k u Q} hu hx h=>by
  obtain⟨r,x1,x2,x3,rfl,t1,i1,i2,i3⟩:=hx
  refine Qfy (ps:=[(a.hash k.1,a.draws k.1),(b.hash k.2.1,b.draws k.2.1),(c.hash k.2.2,c.draws k.2.2)]) hu t1 (.cons (λ{A E s Q} e hu h=>a.pyHash (up (by omega) hu) (by rw[e];exact i1) h) (.cons (λ{A E s Q} e hu h=>b.pyHash (up (by omega) hu) (by rw[e];exact i2) h) (.cons (λ{A E s Q} e hu h=>c.pyHash (up (by omega) hu) (by rw[e];exact i3) h) .nil))) ?_
  simpa[sumN]using h
 eqBool:=λ{A E s x y u z Q} hu hx hy h=>by
  obtain⟨r,x1,x2,x3,rfl,t1,i1,i2,i3⟩:=hx
  obtain⟨r',y1,y2,y3,rfl,t2,j1,j2,j3⟩:=hy
  obtain⟨k1,k2,k3⟩:=x
  obtain⟨l1,l2,l3⟩:=y
  refine Qkm (bs:=[decide (k1=l1),decide (k2=l2),decide (k3=l3)]) hu t1 t2 (.cons (λ{A E s Q} e hu h=>a.eqBool (up (by omega) hu) (by rw[e];exact i1) (by rw[e];exact j1) h) (.cons (λ{A E s Q} e hu h=>b.eqBool (up (by omega) hu) (by rw[e];exact i2) (by rw[e];exact j2) h) (.cons (λ{A E s Q} e hu h=>c.eqBool (up (by omega) hu) (by rw[e];exact i3) (by rw[e];exact j3) h) .nil))) ?_ (λe=>?_) h
  ·by_cases h1:k1=l1 <;> by_cases h2:k2=l2 <;> by_cases h3:k3=l3 <;> simp[h1,h2,h3]
  ·subst e
   have:=t1.inj t2
   injection this with e1 this;injection this with e2 this;injection this with e3 this
   subst e1 e2 e3
   have q1:k1=l1:=a.inj i1 j1
   have q2:k2=l2:=b.inj i2 j2
   have q3:k3=l3:=c.inj i3 j3
   simp[q1,q2,q3]
 quiet:=λ{A E s k u Q} n hn hx h=>by
  obtain⟨r,x1,x2,x3,rfl,t1,i1,i2,i3⟩:=hx
  obtain⟨n,rfl⟩:∃j,n=j+1:=⟨n-1,by omega⟩
  refine QdX n t1 (λv' hv' {A E Q} q=>?_) h
  rcases Uu.mp hv' with rfl|hv'
  ·exact a.quiet n (by omega) i1 q
  rcases Uu.mp hv' with rfl|hv'
  ·exact b.quiet n (by omega) i2 q
  rw[Uf.mp hv']
  exact c.quiet n (by omega) i3 q
noncomputable def hk(v:VK prog w K)(hd:v.dep<=8):HeapKind prog w K where
 is:=λh k a=>v.is h k (.ref a)
 hash:=v.hash
 draws:=v.draws
 room:=λA=>A.units+v.dep<cLine
 inj:=λhx hy=>v.inj hx hy
 keeps:=λ{h h' k a d o es ep} hx ho hdat hs=>v.keeps hx λb o' i n hb hq=>(hs.2 b (by
  rintro rfl
  obtain rfl:o'=o:=Option.some.inj (hb.symm.trans ho)
  rw[hdat]at hq;exact nomatch hq)).trans hb
 pyHash:=λhu hx h=>v.pyHash hu hx h
 eqBool:=λhu hx hy h=>v.eqBool hu hx hy h
 quiet:=λhx h=>v.quiet 8 hd hx h
end
noncomputable abbrev SK:=Int×Int×List (List Int)
noncomputable def shV(prog:Program)(w:World):VK prog w SK:=triV (intV prog w) (intV prog w) (lstV (lstV (intV prog w)))
noncomputable def shK(prog:Program)(w:World):HeapKind prog w SK:=hk (shV prog w) (show max 0 (max 0 (0+1+1))+1<=8 by decide)
noncomputable def QnZ(k:SK):Int:=reduceHash (Builtin.Tuple.tupleHashOf [hashInt k.1,hashInt k.2.1,reduceHash (Builtin.Tuple.tupleHashOf (k.2.2.map λp=>reduceHash (Builtin.Tuple.tupleHashOf (p.map hashInt))))])
noncomputable def ents(xs:List (SK×Addr×Value)):List DictEntry:=xs.map λx=>⟨QnZ x.1,.ref x.2.1,x.2.2⟩
def DObj(a:Addr)(xs:List (SK×Addr×Value))(h:Heap):Prop:=∃o es ep,h.get? a=some o/\o.ExactDict/\o.data=.dict es ep/\es.toList=ents xs
end NK
namespace L3
open PySem
noncomputable abbrev Xc:=Nat×Option Nat
inductive D where
 |non|bl (b:Bool)|int (i:Int)|str (s:Str)|ref (n:Nat)|tup (ds:List D)|fl (ds:List D)
inductive GO where
 |lst (ds:List D)|ins (c:Nat) (fs:List (Str×D))|dct (kvs:List (Sum Int Str×D))|exc (x:Xc)|dfz (kvs:List (Sum Int Str×D))|dcn (kvs:List ((Int×Int×List (List Int))×D))
noncomputable abbrev G:=List GO
noncomputable abbrev S3:=List (Option D)
inductive Res(α:Type) where
 |ok (a:α) (g:G)|raise (x:Xc) (g:G)|stuck
noncomputable def Res.bind{α β:Type}:Res α->(α->G->Res β)->Res β
 |.ok a g,k=>k a g
 |.raise e g,_=>.raise e g
 |.stuck,_=>.stuck
inductive Out where
 |nx (σ:S3) (g:G)|rt (d:D) (g:G)|bk (σ:S3) (g:G)|ct (σ:S3) (g:G)|raise (x:Xc) (σ:S3) (g:G)|stuck
noncomputable abbrev ME:=S3->G->Res D
noncomputable abbrev MT:=S3->G->Res Bool
noncomputable abbrev MA:=S3->G->Res (List D)
noncomputable abbrev MS:=S3->G->Out
noncomputable abbrev MF:=List D->G->Res D
theorem Res.bind_ok{α β:Type}(a:α)(g:G)(k:α->G->Res β):(Res.ok a g).bind k=k a g:=rfl
noncomputable def SZ:Nat:=1000000
noncomputable def mVar(i:Nat):ME:=λσ g=>match σ[i]? with
 |some (some d)=>.ok d g
 |_=>.stuck
noncomputable def mLit(d:D):ME:=λ_ g=>.ok d g
noncomputable def mOp1(f:D->G->Res D)(a:ME):ME:=λσ g=>(a σ g).bind f
noncomputable def mOp2(f:D->D->G->Res D)(a b:ME):ME:=λσ g=>(a σ g).bind λx g1=>(b σ g1).bind λy g2=>f x y g2
noncomputable def mNil:MA:=λ_ g=>.ok [] g
noncomputable def Qb(a:ME)(r:MA):MA:=λσ g=>(a σ g).bind λx g1=>(r σ g1).bind λxs g2=>.ok (x::xs) g2
noncomputable def mOpA(f:List D->G->Res D)(a:MA):ME:=λσ g=>(a σ g).bind f
noncomputable def Qf(a:ME):MT:=λσ g=>(a σ g).bind λd g1=>match d with
 |.bl b=>.ok b g1
 |_=>.stuck
noncomputable def QaB(a:MT):MT:=λσ g=>(a σ g).bind λb g1=>.ok (!b) g1
noncomputable def ZN(a b:MT):MT:=λσ g=>(a σ g).bind λc g1=>if c=true then b σ g1 else .ok false g1
noncomputable def mOrT(a b:MT):MT:=λσ g=>(a σ g).bind λc g1=>if c=true then .ok true g1 else b σ g1
noncomputable def mNot(a:ME):ME:=λσ g=>(a σ g).bind λd g1=>match d with
 |.bl b=>.ok (.bl (!b)) g1
 |_=>.stuck
noncomputable def mAnd(a b:ME):ME:=λσ g=>(a σ g).bind λd g1=>match d with
 |.bl c=>if c=true then b σ g1 else .ok (.bl false) g1
 |_=>.stuck
noncomputable def mIfE(c:MT)(a b:ME):ME:=λσ g=>(c σ g).bind λt g1=>if t=true then a σ g1 else b σ g1
noncomputable def QcO(f f':D->D->G->Res D)(a b c:ME):ME:=λσ g=>(a σ g).bind λx g1=>(b σ g1).bind λy g2=>(f x y g2).bind λz g3=>match z with
 |.bl true=>(c σ g3).bind λw g4=>f' y w g4
 |.bl false=>.ok (.bl false) g3
 |_=>.stuck
noncomputable def QN:MS:=λσ g=>.nx σ g
noncomputable def mSeq(a b:MS):MS:=λσ g=>match a σ g with
 |.nx σ' g'=>b σ' g'
 |o=>o
noncomputable def Z7(a:ME):MS:=λσ g=>match a σ g with
 |.ok _ g'=>.nx σ g'
 |.raise e g'=>.raise e σ g'
 |.stuck=>.stuck
noncomputable def mRet(a:ME):MS:=λσ g=>match a σ g with
 |.ok d g'=>.rt d g'
 |.raise e g'=>.raise e σ g'
 |.stuck=>.stuck
noncomputable def mIf(c:MT)(a b:MS):MS:=λσ g=>match c σ g with
 |.ok t g'=>if t=true then a σ g' else b σ g'
 |.raise e g'=>.raise e σ g'
 |.stuck=>.stuck
noncomputable def Qbo:MS:=λ_ _=>.stuck
noncomputable abbrev MG:=D->S3->Option S3
noncomputable def gSet(i:Nat):MG:=λd σ=>some (σ.set i (some d))
noncomputable def Qgt:List MG->List D->S3->Option S3
 |[],[],σ=>some σ
 |t::ts,d::ds,σ=>(t d σ).bind λσ'=>Qgt ts ds σ'
 |_,_,_=>none
noncomputable def Yo(ts:List MG):MG:=λd σ=>match d with
 |.tup ds=>Qgt ts ds σ
 |_=>none
noncomputable def mAsg(t:MG)(a:ME):MS:=λσ g=>match a σ g with
 |.ok d g'=>(match t d σ with
  |some σ'=>.nx σ' g'
  |none=>.stuck)
 |.raise e g'=>.raise e σ g'
 |.stuck=>.stuck
structure Src where
 at':G->Nat->Option (Option D)
 top:Nat
noncomputable abbrev MI:=S3->G->Res Src
noncomputable def forL(src:Src)(t:MG)(body:MS):Nat->Nat->S3->G->Out
 |0,_,_,_=>.stuck
 |f+1,i,σ,g=>match src.at' g i with
  |some (some d)=>(match t d σ with
   |some σ1=>(match body σ1 g with
    |.nx σ2 g2=>forL src t body f (i+1) σ2 g2
    |.ct σ2 g2=>forL src t body f (i+1) σ2 g2
    |.bk σ2 g2=>.nx σ2 g2
    |o=>o)
   |none=>.stuck)
  |some none=>.nx σ g
  |none=>.stuck
noncomputable def mFor(it:MI)(t:MG)(body:MS):MS:=λσ g=>match it σ g with
 |.ok src g'=>forL src t body (src.top+1) 0 σ g'
 |.raise e g'=>.raise e σ g'
 |.stuck=>.stuck
noncomputable def QX(c:MT)(body:MS):Nat->S3->G->Out
 |0,_,_=>.stuck
 |f+1,σ,g=>match c σ g with
  |.ok true g1=>(match body σ g1 with
   |.nx σ2 g2=>QX c body f σ2 g2
   |.ct σ2 g2=>QX c body f σ2 g2
   |.bk σ2 g2=>.nx σ2 g2
   |o=>o)
  |.ok false g1=>.nx σ g1
  |.raise e g1=>.raise e σ g1
  |.stuck=>.stuck
open Classical in
noncomputable def QbW(c:MT)(body:MS):MS:=λσ g=>if h:∃f,QX c body f σ g≠.stuck then QX c body h.choose σ g else .stuck
noncomputable def Y2(src:Src)(t:MG)(c:MT)(e:ME):Nat->Nat->S3->G->List D->Res (List D)
 |0,_,_,_,_=>.stuck
 |f+1,i,σ,g,acc=>match src.at' g i with
  |some (some d)=>(match t d σ with
   |some σ1=>(match c σ1 g with
    |.ok b g1=>if b=true then (match e σ1 g1 with
     |.ok y g2=>Y2 src t c e f (i+1) σ1 g2 (acc++[y])
     |_=>.stuck) else Y2 src t c e f (i+1) σ1 g1 acc
    |_=>.stuck)
   |none=>.stuck)
  |some none=>.ok acc g
  |none=>.stuck
noncomputable def capt(n:Nat)(cap:List Nat)(σ:S3):S3:=List.replicate n none++cap.map λi=>(σ[i]?).getD none
noncomputable def newL(ds:List D)(g:G):Res D:=if ds.length<=SZ then .ok (.ref g.length) (g++[.lst ds]) else .stuck
noncomputable def pTup(xs:List D)(g:G):Res D:=if xs.length<=SZ then .ok (.tup xs) g else .stuck
noncomputable def ZO(it:MI)(n:Nat)(cap:List Nat)(t:MG)(c:MT)(e:ME):ME:=λσ g=>match it σ g with
 |.ok src g1=>if src.top<=SZ then (match Y2 src t c e (src.top+1) 0 (capt n cap σ) g1 []with
  |.ok ds g2=>.ok (.ref g2.length) (g2++[.lst ds])
  |_=>.stuck) else .stuck
 |_=>.stuck
noncomputable def Yf:MT:=λ_ g=>.ok true g
noncomputable def mDef(k n:Nat)(body:MS):MF:=λds g=>if ds.length=k then (match body (ds.map some++List.replicate n none) g with
 |.nx _ g'=>.ok .non g'
 |.rt d g'=>.ok d g'
 |.raise e _ g'=>.raise e g'
 |_=>.stuck) else .stuck
noncomputable def Qr(f:MF)(a:MA):ME:=λσ g=>(a σ g).bind f
noncomputable def Zr(cc:Nat)(m:Str)(f:MF)(o:ME)(a:MA):ME:=λσ g=>(o σ g).bind λx g1=>match x with
 |.ref n=>(match g1[n]? with
  |some (.ins c fs)=>if c=cc/\fs.lookup m=none then (a σ g1).bind λxs g2=>f (.ref n::xs) g2 else .stuck
  |_=>.stuck)
 |_=>.stuck
noncomputable def Qc5(c:Nat)(f:MF)(a:MA):ME:=λσ g=>(a σ g).bind λxs g1=>(f (.ref g1.length::xs) (g1++[.ins c []])).bind λd g2=>match d with
 |.non=>.ok (.ref g1.length) g2
 |_=>.stuck
noncomputable def QP(cs:List Nat)(f:Str)(o:ME):ME:=mOp1 (λx g=>match x with
 |.ref n=>(match g[n]? with
  |some (.ins c fs)=>if c∈cs then (match fs.lookup f with
   |some d=>.ok d g
   |none=>.stuck) else .stuck
  |_=>.stuck)
 |_=>.stuck) o
noncomputable def putG(f:Str)(v:D):List (Str×D)->List (Str×D)
 |[]=>[(f,v)]
 | (g,x)::r=>if g=f then (g,v)::r else (g,x)::putG f v r
noncomputable def QR(cs:List Nat)(f:Str)(o v:ME):MS:=λσ g=>match v σ g with
 |.ok y g1=>(match o σ g1 with
  |.ok (.ref n) g2=>(match g2[n]? with
   |some (.ins c fs)=>if c∈cs/\fs.length<100 then .nx σ (g2.set n (.ins c (putG f y fs))) else .stuck
   |_=>.stuck)
  |.raise e g'=>.raise e σ g'
  |_=>.stuck)
 |.raise e g'=>.raise e σ g'
 |.stuck=>.stuck
noncomputable def ixD(n:Nat)(i:Int):Option Nat:=if 0<=i then (if i<n then some i.toNat else none) else if -(n:Int)<=i then some (i+n).toNat else none
noncomputable def Jt(o i v:ME):MS:=λσ g=>match v σ g with
 |.ok y g1=>(match o σ g1 with
  |.ok (.ref n) g2=>(match i σ g2 with
   |.ok (.int k) g3=>(match g3[n]? with
    |some (.lst ds)=>(match ixD ds.length k with
     |some j=>.nx σ (g3.set n (.lst (ds.set j y)))
     |none=>.stuck)
    |_=>.stuck)
   |.raise e g'=>.raise e σ g'
   |_=>.stuck)
  |.raise e g'=>.raise e σ g'
  |_=>.stuck)
 |.raise e g'=>.raise e σ g'
 |.stuck=>.stuck
noncomputable def QaC(d:D)(g:G):Res Src:=match d with
 |.tup ds=>.ok ⟨λ_ i=>some ds[i]?,ds.length⟩ g
 |.fl ds=>.ok ⟨λ_ i=>some ds[i]?,ds.length⟩ g
 |.ref n=>(match g[n]? with
  |some (.lst ds)=>.ok ⟨λg i=>(match g[n]? with|some (.lst es)=>some es[i]? | _=>none),ds.length⟩ g
  |_=>.stuck)
 |_=>.stuck
noncomputable def QQ(a:ME):MI:=λσ g=>(a σ g).bind QaC
noncomputable def QI(lo:Int)(n:Nat):Src:=⟨λ_ i=>some (if i<n then some (.int (lo+i)) else none),n⟩
def inR(j:Int):Prop:=-(2^62)<=j/\j<2^62
noncomputable instance (j:Int):Decidable (inR j):=inferInstanceAs (Decidable (_/\_))
noncomputable def Zs(a:ME):MI:=λσ g=>(a σ g).bind λd g1=>match d with
 |.int j=>if inR j then .ok (QI 0 j.toNat) g1 else .stuck
 |_=>.stuck
noncomputable def Q7(a b:ME):MI:=λσ g=>(a σ g).bind λd g1=>(b σ g1).bind λd' g2=>match d,d' with
 |.int i,.int j=>if inR i/\inR j then .ok (QI i (j-i).toNat) g2 else .stuck
 |_,_=>.stuck
noncomputable def QH(g:G):D->Option (Bool×List D)
 |.tup ds=>some (false,ds)
 |.fl ds=>some (true,ds)
 |.ref n=>(match g[n]? with
  |some (.lst ds)=>some (true,ds)
  |_=>none)
 |_=>none
noncomputable def Qfz(d1 d2:D)(g:G):Res Src:=match QH g d1,QH g d2 with
 |some (_,xs),some (_,ys)=>.ok ⟨λg i=>(match QH g d1,QH g d2 with
  |some (_,xs),some (_,ys)=>(match xs[i]?,ys[i]? with
   |some x,some y=>some (some (.tup [x,y]))
   |_,_=>some none)
  |_,_=>none),min xs.length ys.length⟩ g
 |_,_=>.stuck
noncomputable def QfA(a b:ME):MI:=λσ g=>(a σ g).bind λx g1=>(b σ g1).bind λy g2=>Qfz x y g2
noncomputable def pAdd(x y:D)(g:G):Res D:=match x,y with
 |.int i,.int j=>.ok (.int (i+j)) g
 |.tup xs,.tup ys=>if xs.length+ys.length<=SZ then .ok (.tup (xs++ys)) g else .stuck
 |.ref n,.ref m=>(match g[n]?,g[m]? with
  |some (.lst xs),some (.lst ys)=>if xs.length+ys.length<=SZ then .ok (.ref g.length) (g++[.lst (xs++ys)]) else .stuck
  |_,_=>.stuck)
 |_,_=>.stuck
noncomputable def pSub(x y:D)(g:G):Res D:=match x,y with
 |.int i,.int j=>.ok (.int (i-j)) g
 |_,_=>.stuck
def cM(i:Int):Prop:=-(2^64)<i/\i<2^64
noncomputable instance (j:Int):Decidable (cM j):=inferInstanceAs (Decidable (_/\_))
noncomputable def pMul(x y:D)(g:G):Res D:=match x,y with
 |.int i,.int j=>if cM i\/cM j then .ok (.int (i*j)) g else .stuck
 |_,_=>.stuck
noncomputable def Z8(x y:D)(g:G):Res D:=match x,y with
 |.int i,.int j=>if 0<j/\j<1073741824 then .ok (.int (i/j)) g else .stuck
 |_,_=>.stuck
noncomputable def pMod(x y:D)(g:G):Res D:=match x,y with
 |.int i,.int j=>if 0<j then .ok (.int (i%j)) g else .stuck
 |_,_=>.stuck
noncomputable def pNeg(x:D)(g:G):Res D:=match x with
 |.int i=>.ok (.int (-i)) g
 |_=>.stuck
noncomputable def pCmp(r:Int->Int->Bool)(x y:D)(g:G):Res D:=match x,y with
 |.int i,.int j=>.ok (.bl (r i j)) g
 |_,_=>.stuck
noncomputable def pLt:=pCmp λi j=>decide (i<j)
noncomputable def pLe:=pCmp λi j=>decide (i<=j)
noncomputable def pGt:=pCmp λi j=>decide (j<i)
noncomputable def pGe:=pCmp λi j=>decide (j<=i)
noncomputable def b2I(b:Bool):Int:=if b then 1 else 0
noncomputable def eqGs(eq:D->D->Option Bool):List D->List D->Option Bool
 |[],[]=>some true
 |x::xs,y::ys=>(match eq x y,eqGs eq xs ys with
  |some a,some b=>some (a && b)
  |_,_=>none)
 |_,_=>some false
noncomputable def eqI:Nat->D->D->Option Bool
 |0,x,y=>(match x,y with
  |.int i,.int j=>some (i == j)
  |_,_=>none)
 |f+1,x,y=>(match x,y with
  |.int i,.int j=>some (i == j)
  |.tup xs,.tup ys=>eqGs (eqI f) xs ys
  |_,_=>none)
noncomputable def eqT(g:G)(x y:D):Option Bool:=match x,y with
 |.int i,.int j=>some (i == j)
 |.str s,.str t=>some (s == t)
 |.tup xs,.tup ys=>eqGs (eqI 2) xs ys
 |.ref n,.ref m=>(match g[n]?,g[m]? with
  |some (.lst xs),some (.lst ys)=>if xs.length=ys.length then eqGs (eqI 2) xs ys else some false
  |_,_=>none)
 |_,_=>none
noncomputable def pEq(x y:D)(g:G):Res D:=match eqT g x y with
 |some b=>.ok (.bl b) g
 |none=>.stuck
noncomputable def Qbv:List D->Option (List Int)
 |[]=>some []
 |.int i::r=>(Qbv r).map (i :: ·)
 |_::_=>none
noncomputable def neT(_:G)(x y:D):Option Bool:=match x,y with
 |.int i,.int j=>some (i == j)
 |.str s,.str t=>some (s == t)
 |.bl a,.bl b=>some (a == b)
 |_,_=>none
noncomputable def pNe(x y:D)(g:G):Res D:=match neT g x y with
 |some b=>.ok (.bl (!b)) g
 |none=>.stuck
noncomputable def isNon:D->Bool
 |.non=>true
 |_=>false
noncomputable def pIs(x y:D)(g:G):Res D:=match y with
 |.non=>.ok (.bl (isNon x)) g
 |_=>.stuck
noncomputable def YB(x y:D)(g:G):Res D:=match y with
 |.non=>.ok (.bl (!isNon x)) g
 |_=>.stuck
noncomputable def atD{α:Type}(xs:List α)(i:Int):Option α:=(ixD xs.length i).bind λj=>xs[j]?
noncomputable def pIx(x y:D)(g:G):Res D:=match x,y with
 |.tup ds,.int i=>(match atD ds i with
  |some d=>.ok d g
  |none=>.stuck)
 |.fl ds,.int i=>(match atD ds i with
  |some d=>.ok d g
  |none=>.stuck)
 |.ref n,.int i=>(match g[n]? with
  |some (.lst ds)=>(match atD ds i with
   |some d=>.ok d g
   |none=>.stuck)
  |_=>.stuck)
 |.str s,.int i=>if s.length<=SZ then (match atD s.cps.toList i with
  |some c=>.ok (.str ⟨#[c]⟩) g
  |none=>.stuck) else .stuck
 |_,_=>.stuck
noncomputable def sIxD(n d:Nat):Option Int->Nat
 |none=>d
 |some v=>if v<0 then (v+(n:Int)).toNat else min v.toNat n
noncomputable def cutD{α:Type}(xs:List α)(lo hi:Option Int):List α:=(xs.drop (sIxD xs.length 0 lo)).take (sIxD xs.length xs.length hi-sIxD xs.length 0 lo)
noncomputable def Qhp(x:D)(lo hi:Option Int)(g:G):Res D:=match x with
 |.ref n=>(match g[n]? with
  |some (.lst ds)=>.ok (.ref g.length) (g++[.lst (cutD ds lo hi)])
  |_=>.stuck)
 |_=>.stuck
noncomputable abbrev MO:=S3->G->Res (Option Int)
noncomputable def QcB(a:ME):MO:=λσ g=>(a σ g).bind λd g1=>match d with
 |.int i=>.ok (some i) g1
 |_=>.stuck
noncomputable def QcP(a:ME)(lo hi:MO):ME:=λσ g=>(a σ g).bind λx g1=>(lo σ g1).bind λl g2=>(hi σ g2).bind λh g3=>Qhp x l h g3
noncomputable def pLen(x:D)(g:G):Res D:=match x with
 |.tup ds=>.ok (.int ds.length) g
 |.fl ds=>.ok (.int ds.length) g
 |.ref n=>(match g[n]? with
  |some (.lst ds)=>.ok (.int ds.length) g
  |_=>.stuck)
 |_=>.stuck
noncomputable def Ym(x:D)(g:G):Res D:=match x with
 |.tup ds=>.ok (.tup ds) g
 |.fl ds=>.ok (.tup ds) g
 |.ref n=>(match g[n]? with
  |some (.lst ds)=>.ok (.tup ds) g
  |_=>.stuck)
 |_=>.stuck
noncomputable def ZP(o e:ME):ME:=λσ g=>(o σ g).bind λx g1=>match x with
 |.ref n=>(match g1[n]? with
  |some (.lst _)=>(e σ g1).bind λy g2=>(match g2[n]? with
   |some (.lst ds)=>if ds.length<SZ then .ok .non (g2.set n (.lst (ds++[y]))) else .stuck
   |_=>.stuck)
  |_=>.stuck)
 |_=>.stuck
noncomputable def pPop(x:D)(g:G):Res D:=match x with
 |.ref n=>(match g[n]? with
  |some (.lst ds)=>(match ds[ds.length-1]? with
   |some y=>.ok y (g.set n (.lst ds.dropLast))
   |none=>.stuck)
  |_=>.stuck)
 |_=>.stuck
inductive Ty where
 |non|bool|int|str|tuple|list|dict
 deriving DecidableEq
noncomputable def Ty.name:Ty->String
 |.non => "NoneType" |.bool => "bool" |.int => "int" |.str => "str" |.tuple => "tuple" |.list => "list" |.dict => "dict"
noncomputable def tyLe(t c:Ty):Bool:=t == c || (t == .bool && c == .int)
noncomputable def tyOf(g:G):D->Option Ty
 |.non=>some .non
 |.bl _=>some .bool
 |.int _=>some .int
 |.str _=>some .str
 |.tup _=>some .tuple
 |.fl _=>some .list
 |.ref n=>(match g[n]? with
  |some (.lst _)=>some .list
  |some (.dct _)=>some .dict
  |_=>none)
noncomputable def Jp(c:Ty)(x:D)(g:G):Res D:=match tyOf g x with
 |some t=>.ok (.bl (tyLe t c)) g
 |none=>.stuck
noncomputable def allB:List D->Option Bool
 |[]=>some true
 |.bl b::r=>(allB r).map (b && ·)
 |_::_=>none
noncomputable def pAll(x:D)(g:G):Res D:=match x with
 |.ref n=>(match g[n]? with
  |some (.lst ds)=>(match allB ds with
   |some b=>.ok (.bl b) g
   |none=>.stuck)
  |_=>.stuck)
 |_=>.stuck
noncomputable def QcC:D->Bool
 |.non=>true
 |.bl _=>true
 |.int _=>true
 |.str _=>true
 |_=>false
noncomputable def eqF(x y:D):Bool:=match x,y with
 |.non,.non=>true
 |.bl a,.bl b=>a == b
 |.int i,.int j=>i == j
 |.str s,.str t=>s == t
 |.bl a,.int j=>b2I a == j
 |.int i,.bl b=>i == b2I b
 |_,_=>false
noncomputable def pIn(neg:Bool)(x y:D)(g:G):Res D:=match QH g y with
 |some (_,ds)=>if QcC x=true/\ds.all QcC=true then .ok (.bl (if neg=true then !(ds.any λd=>eqF d x) else ds.any λd=>eqF d x)) g else .stuck
 |none=>.stuck
noncomputable def rowI:List D->Option (List Int)
 |[]=>some []
 |.int i::r=>(rowI r).map (i :: ·)
 |_::_=>none
noncomputable def QdY:List D->Option (List (List Int))
 |[]=>some []
 |.tup ds::r=>(match rowI ds,QdY r with
  |some x,some y=>some (x::y)
  |_,_=>none)
 |_::_=>none
noncomputable def skOf:D->Option (Int×Int×List (List Int))
 |.tup [.int a,.int b,.tup ms]=>(QdY ms).map λx=>(a,b,x)
 |_=>none
end L3
namespace L3
open PySem PySem.Spec PyProof.Rows L2
def SqF(K:Frag)(H:Hp)(a:Addr)(xs:List V):Prop:=(∃o,H a=some (.frz o (.lst xs)))\/SqL K (λ_=>none) a xs
theorem SqF.sq{K:Frag}{H:Hp}{a:Addr}{xs:List V}(h:SqF K H a xs):SqL K H a xs:=by
 rcases h with⟨o,h⟩|(h|⟨o,h⟩)|h
 ·exact .inl (.inr ⟨o,h⟩)
 ·cases h
 ·cases h
 ·exact .inr h
mutual
inductive Den(K:Frag)(μ:List Addr)(H:Hp):V->D->Prop where
 |non:Den K μ H .non .non
 |bl (b:Bool):Den K μ H (.bl b) (.bl b)
 |int (i:Int):Den K μ H (.int i) (.int i)
 |str (x:Str):Den K μ H (.str x) (.str x)
 |ref {n:Nat} {a:Addr} (h:μ[n]?=some a):Den K μ H (.ref a) (.ref n)
 |tup {a:Addr} {vs:List V} {ds:List D} (h:SqT K H a vs) (hs:Dens K μ H vs ds):Den K μ H (.ref a) (.tup ds)
 |fl {a:Addr} {vs:List V} {ds:List D} (h:SqF K H a vs) (hs:Dens K μ H vs ds):Den K μ H (.ref a) (.fl ds)
inductive Dens(K:Frag)(μ:List Addr)(H:Hp):List V->List D->Prop where
 |nil:Dens K μ H [] []
 |cons {v:V} {d:D} {vs:List V} {ds:List D} (h:Den K μ H v d) (hs:Dens K μ H vs ds):Dens K μ H (v::vs) (d::ds)
end
structure Ext(K:Frag)(μ:List Addr)(H:Hp)(μ':List Addr)(H':Hp):Prop where
 pre:∃t,μ'=μ++t
 tup:∀a xs,SqT K H a xs->SqT K H' a xs
 fl:∀a xs,SqF K H a xs->SqF K H' a xs
 frz:∀a o u,H a=some (.frz o u)->H' a=some (.frz o u)
section
variable{K:Frag}{ca:Nat->Addr}{μ μ' μ'':List Addr}{H H' H'':Hp}
theorem Ext.refl:Ext K μ H μ H:=⟨⟨[],by simp⟩,λ_ _ h=>h,λ_ _ h=>h,λ_ _ _ h=>h⟩
theorem Ext.trans(a:Ext K μ H μ' H')(b:Ext K μ' H' μ'' H''):Ext K μ H μ'' H'':=by
 obtain⟨t,e⟩:=a.pre
 obtain⟨u,f⟩:=b.pre
 exact⟨⟨t++u,by rw[f,e,List.append_assoc]⟩,λx xs h=>b.tup x xs (a.tup x xs h),λx xs h=>b.fl x xs (a.fl x xs h),λx o u h=>b.frz x o u (a.frz x o u h)⟩
theorem Ext.at(e:Ext K μ H μ' H'){n:Nat}{a:Addr}(h:μ[n]?=some a):μ'[n]?=some a:=by
 obtain⟨t,rfl⟩:=e.pre
 have hl:n<μ.length:=(Ue.mp h).1
 rw[Uy hl]
 exact h
mutual
theorem Den.mono(e:Ext K μ H μ' H'):∀{v:V}{d:D},Den K μ H v d->Den K μ' H' v d
 |_,_,.non=>.non
 |_,_,.bl b=>.bl b
 |_,_,.int i=>.int i
 |_,_,.str x=>.str x
 |_,_,.ref h=>.ref (e.at h)
 |_,_,.tup h hs=>.tup (e.tup _ _ h) (Dens.mono e hs)
 |_,_,.fl h hs=>.fl (e.fl _ _ h) (Dens.mono e hs)
theorem Dens.mono(e:Ext K μ H μ' H'):∀{vs:List V}{ds:List D},Dens K μ H vs ds->Dens K μ' H' vs ds
 |_,_,.nil=>.nil
 |_,_,.cons h hs=>.cons (Den.mono e h) (Dens.mono e hs)
end
theorem Dens.length:∀{vs:List V}{ds:List D},Dens K μ H vs ds->vs.length=ds.length
 |_,_,.nil=>rfl
 |_,_,.cons _ t=>by rw[UN,UN,Dens.length t]
theorem Dens.get:∀{vs:List V}{ds:List D}{i:Nat}{d:D},Dens K μ H vs ds->ds[i]?=some d->∃v,vs[i]?=some v/\Den K μ H v d
 |_,_,_,_,.nil,e=>by simp at e
 |_,_,0,_,.cons r _,e=>by simp at e;subst e;exact⟨_,rfl,r⟩
 |_,_,i+1,x,.cons _ t,e=>by
  obtain⟨u,h1,h2⟩:=Dens.get (i:=i) (d:=x) t (by simpa using e)
  exact⟨u,by simpa using h1,h2⟩
theorem Dens.getV:∀{vs:List V}{ds:List D}{i:Nat}{v:V},Dens K μ H vs ds->vs[i]?=some v->∃d,ds[i]?=some d/\Den K μ H v d
 |_,_,_,_,.nil,e=>by simp at e
 |_,_,0,_,.cons r _,e=>by simp at e;subst e;exact⟨_,rfl,r⟩
 |_,_,i+1,x,.cons _ t,e=>by
  obtain⟨u,h1,h2⟩:=Dens.getV (i:=i) (v:=x) t (by simpa using e)
  exact⟨u,by simpa using h1,h2⟩
theorem Dens.append:∀{vs ws:List V}{ds es:List D},Dens K μ H vs ds->Dens K μ H ws es->Dens K μ H (vs++ws) (ds++es)
 |_,_,_,_,.nil,h=>h
 |_,_,_,_,.cons a b,h=>.cons a (Dens.append b h)
theorem Dens.set{x:V}{u:D}(r:Den K μ H x u):∀{xs:List V}{us:List D}(i:Nat),Dens K μ H xs us->Dens K μ H (xs.set i x) (us.set i u)
 |_,_,_,.nil=>.nil
 |_,_,0,.cons _ t=>.cons r t
 |_,_,i+1,.cons q t=>.cons q (Dens.set r i t)
theorem Dens.take:∀{xs:List V}{us:List D}(n:Nat),Dens K μ H xs us->Dens K μ H (xs.take n) (us.take n)
 |_,_,0,_=>.nil
 |_,_,_+1,.nil=>.nil
 |_,_,n+1,.cons r t=>.cons r (Dens.take n t)
theorem Dens.drop:∀{xs:List V}{us:List D}(n:Nat),Dens K μ H xs us->Dens K μ H (xs.drop n) (us.drop n)
 |_,_,0,r=>r
 |_,_,_+1,.nil=>.nil
 |_,_,n+1,.cons _ t=>Dens.drop n t
theorem Dens.ints(ns:List Int):Dens K μ H (ns.map V.int) (ns.map D.int):=by
 induction ns with
 |nil=>exact .nil
 |cons n r ih=>exact .cons (.int n) ih
noncomputable def FRel(K:Frag)(μ:List Addr)(H:Hp):List (Str×V)->List (Str×D)->Prop:=Paired λp q=>p.1=q.1/\Den K μ H p.2 q.2
noncomputable def KRel(K:Frag)(μ:List Addr)(H:Hp):List (Key×V)->List (Key×D)->Prop:=Paired λp q=>p.1=q.1/\Den K μ H p.2 q.2
def XOb(ca:Nat->Addr)(x:Xc)(o:Obj):Prop:=o.cls=.ref (ca x.1)/\o.dict=none
theorem XOb.map{ca:Nat->Addr}{x:Xc}{o:Obj}(h:XOb ca x o)(f:Array Value->Array Value):XOb ca x (o.mapFields f):=by
 obtain⟨c,d,dt,sl⟩:=o
 cases dt <;> exact h
noncomputable def XO(ca:Nat->Addr)(a:Addr)(x:Xc):HO:=.ext λh=>∃o vs,h.get? a=some o/\XOb ca x o/\o.data=.fields vs
noncomputable def ND(a:Addr)(xs:List (NK.SK×Addr×Value)):HO:=.ext (NK.DObj a xs)
noncomputable def NRel(K:Frag)(μ:List Addr)(H:Hp):List (NK.SK×Addr×Value)->List (NK.SK×D)->Prop:=Paired λx q=>x.1=q.1/\(∃d,skOf d=some x.1/\Den K μ H (.ref x.2.1) d)/\∃v,RelV v x.2.2/\Den K μ H v q.2
theorem NRel.mono(e:Ext K μ H μ' H'){xs:List (NK.SK×Addr×Value)}{ks:List (NK.SK×D)}(h:NRel K μ H xs ks):NRel K μ' H' xs ks:=Paired.imp' (λ_ _ q=>⟨q.1,let ⟨d,a,b⟩:=q.2.1;⟨d,a,b.mono e⟩,let ⟨v,a,b⟩:=q.2.2;⟨v,a,b.mono e⟩⟩) h
noncomputable def ORep(K:Frag)(ca:Nat->Addr)(μ:List Addr)(H:Hp)(a:Addr):GO->Prop
 |.dct ks=>∃kv,H a=some (.dK kv)/\KRel K μ H kv ks
 |.exc x=>H a=some (XO ca a x)
 |.dfz ks=>∃o kv,H a=some (.frz o (.dK kv))/\KRel K μ H kv ks
 |.dcn ks=>∃xs,H a=some (ND a xs)/\NRel K μ H xs ks/\(xs.map (·.1)).Nodup/\(a == sysModules)=false
 |.lst ds=>∃vs,H a=some (.lst vs)/\Dens K μ H vs ds
 |.ins c fs=>∃dx fv,H a=some (.ins (ca c) dx fv)/\FRel K μ H fv fs
structure GRep(K:Frag)(ca:Nat->Addr)(μ:List Addr)(H:Hp)(g:G):Prop where
 len:μ.length=g.length
 nd:μ.Nodup
 obj:∀(n:Nat)(a:Addr)(o:GO),μ[n]?=some a->g[n]?=some o->ORep K ca μ H a o
structure Rep(K:Frag)(ca:Nat->Addr)(μ:List Addr)(σ3:S3)(g:G)(σ:L2.St)(H:Hp):Prop where
 g:GRep K ca μ H g
 len:σ.length=σ3.length
 st:∀(i:Nat)(d:D),σ3[i]?=some (some d)->∃v,σ[i]?=some (some v)/\Den K μ H v d
theorem FRel.mono(e:Ext K μ H μ' H'){fv:List (Str×V)}{fs:List (Str×D)}(h:FRel K μ H fv fs):FRel K μ' H' fv fs:=Paired.imp' (λ_ _ q=>⟨q.1,q.2.mono e⟩) h
theorem KRel.mono(e:Ext K μ H μ' H'){fv:List (Key×V)}{fs:List (Key×D)}(h:KRel K μ H fv fs):KRel K μ' H' fv fs:=Paired.imp' (λ_ _ q=>⟨q.1,q.2.mono e⟩) h
theorem Rep.go{σ3:S3}{g g':G}{σ:L2.St}(r:Rep K ca μ σ3 g σ H)(e:Ext K μ H μ' H')(h:GRep K ca μ' H' g'):Rep K ca μ' σ3 g' σ H' :=
 ⟨h,r.len,λi d z=>by obtain⟨v,h1,h2⟩:=r.st i d z;exact⟨v,h1,h2.mono e⟩⟩
theorem GRep.addr{g:G}(r:GRep K ca μ H g){n:Nat}{o:GO}(h:g[n]?=some o):∃a,μ[n]?=some a/\ORep K ca μ H a o:=by
 have hl:n<g.length:=(Ue.mp h).1
 have hm:n<μ.length:=by rw[r.len];exact hl
 exact⟨μ[n],by simp[hm],r.obj n _ o (by simp[hm]) h⟩
theorem ORep.is{a:Addr}{o:GO}(h:ORep K ca μ H a o):∃u,H a=some u:=by
 cases o with
 |lst ds=>obtain⟨_,h,_⟩:=h;exact⟨_,h⟩
 |ins c fs=>obtain⟨_,_,h,_⟩:=h;exact⟨_,h⟩
 |dct ks=>obtain⟨_,h,_⟩:=h;exact⟨_,h⟩
 |exc x=>exact⟨_,h⟩
 |dfz ks=>obtain⟨_,_,h,_⟩:=h;exact⟨_,h⟩
 |dcn ks=>obtain⟨_,h,_⟩:=h;exact⟨_,h⟩
theorem GRep.known{g:G}(r:GRep K ca μ H g){a:Addr}(h:a∈μ):∃u,H a=some u:=by
 obtain⟨n,hn⟩:=Rr h
 have hl:n<μ.length:=(Ue.mp hn).1
 have hg:n<g.length:=by rw[<-r.len];exact hl
 exact(r.obj n a g[n] hn (by simp[hg])).is
theorem Q8{p:Addr}{o:HO}(hp:H p=none):Ext K μ H μ (upd H p o):=⟨⟨[],by simp⟩,λa xs h=>by
 rcases h with(h|⟨u,h⟩)|h
 ·exact .inl (.inl (by rw[Qs (QM h hp)];exact h))
 ·exact .inl (.inr ⟨u,by rw[Qs (QM h hp)];exact h⟩)
 ·exact .inr h,λa xs h=>by
 rcases h with⟨u,h⟩|h
 ·exact .inl ⟨u,by rw[Qs (QM h hp)];exact h⟩
 ·exact .inr h,λa o u h=>by rw[Qs (QM h hp)];exact h⟩
theorem ORep.mono{a:Addr}{o:GO}(e:Ext K μ H μ' H')(ha:∀u,H a=some u->H' a=some u)(h:ORep K ca μ H a o):ORep K ca μ' H' a o:=by
 cases o with
 |lst ds=>obtain⟨vs,h,q⟩:=h;exact⟨vs,ha _ h,q.mono e⟩
 |ins c fs=>obtain⟨dx,fv,h,q⟩:=h;exact⟨dx,fv,ha _ h,q.mono e⟩
 |dct ks=>obtain⟨kv,h,q⟩:=h;exact⟨kv,ha _ h,q.mono e⟩
 |exc x=>exact ha _ h
 |dfz ks=>obtain⟨o,kv,h,q⟩:=h;exact⟨o,kv,ha _ h,q.mono e⟩
 |dcn ks=>obtain⟨xs,h,q,r⟩:=h;exact⟨xs,ha _ h,q.mono e,r⟩
theorem GRep.new{g:G}{p:Addr}{o:HO}(r:GRep K ca μ H g)(hp:H p=none):GRep K ca μ (upd H p o) g :=
 ⟨r.len,r.nd,λn a u h1 h2=>(r.obj n a u h1 h2).mono (Q8 hp) λz hz=>by rw[Qs (QM hz hp)];exact hz⟩
theorem QS{p:Addr}{o:HO}(hp:H p=none):Ext K μ H (μ++[p]) (upd H p o):=⟨⟨[p],rfl⟩,(Q8 (μ:=μ) hp).tup,(Q8 (μ:=μ) hp).fl,(Q8 (K:=K) (μ:=μ) hp).frz⟩
theorem GRep.push{g:G}{p:Addr}{o:HO}{u:GO}(r:GRep K ca μ H g)(hp:H p=none)(ho:ORep K ca (μ++[p]) (upd H p o) p u):GRep K ca (μ++[p]) (upd H p o) (g++[u]):=by
 have nm:p∉μ:=λh=>by
  obtain⟨z,hz⟩:=r.known h
  rw[hp]at hz;cases hz
 refine⟨by rw[UB,UB,r.len];rfl,?_,λn a w h1 h2=>?_⟩
 ·rw[List.nodup_append]
  exact⟨r.nd,by simp,λx hx y hy e=>nm (by rw[Uf.mp hy]at e;rw[<-e];exact hx)⟩
 ·by_cases hn:n<g.length
  ·rw[Uy hn]at h2
   rw[Uy (by rw[r.len];exact hn)]at h1
   exact(r.obj n a w h1 h2).mono (QS hp) λz hz=>by rw[Qs (QM hz hp)];exact hz
  ·rw[UJ (by omega)]at h2
   rw[UJ (by rw[r.len];omega)]at h1
   have e0:n-g.length=0:=by
    have:=(Ue.mp h2).1
    simp at this;omega
   rw[e0]at h2
   rw[r.len,e0]at h1
   simp at h1 h2
   subst h1 h2
   exact ho
theorem Y3{a:Addr}{o o':HO}(h:H a=some o)(no:∀xs,o≠.tup xs)(nf:∀b u,o≠.frz b u):Ext K μ H μ (upd H a o'):=⟨⟨[],by simp⟩,λb xs hb=>by
 rcases hb with(z|⟨u,z⟩)|z
 ·exact .inl (.inl (by rw[Qs (QcX z h (Ne.symm (no xs)))];exact z))
 ·exact .inl (.inr ⟨u,by rw[Qs (QcX z h (Ne.symm (nf u _)))];exact z⟩)
 ·exact .inr z,λb xs hb=>by
 rcases hb with⟨u,z⟩|z
 ·exact .inl ⟨u,by rw[Qs (QcX z h (Ne.symm (nf u _)))];exact z⟩
 ·exact .inr z,λb u v z=>by rw[Qs (QcX z h (Ne.symm (nf u v)))];exact z⟩
theorem GRep.set{g:G}{n:Nat}{a:Addr}{o o':HO}{u:GO}(r:GRep K ca μ H g)(hn:μ[n]?=some a)(h:H a=some o)(no:∀xs,o≠.tup xs)(nf:∀b u,o≠.frz b u)(ho:ORep K ca μ (upd H a o') a u):
  GRep K ca μ (upd H a o') (g.set n u):=by
 refine⟨by rw[UR,r.len],r.nd,λm b w h1 h2=>?_⟩
 by_cases e:m=n
 ·subst e
  rw[hn]at h1;cases h1
  have hl:m<g.length:=by
   rw[<-r.len];exact(Ue.mp hn).1
  rw[UW hl]at h2;cases h2
  exact ho
 ·rw[Ui (Ne.symm e)]at h2
  have nb:b≠a:=λz=>by
   subst z
   have e1:=(Ue.mp h1)
   have e2:=(Ue.mp hn)
   obtain⟨l1,q1⟩:=e1
   obtain⟨l2,q2⟩:=e2
   exact e ((Wb r.nd).mp (q1.trans q2.symm))
  exact(r.obj m b w h1 h2).mono (Y3 h no nf) λz hz=>by rw[Qs nb];exact hz
noncomputable abbrev XS:=Xc->L2.St->Hp->Prop
noncomputable def FpW(X:Cx)(pins:List (Addr×Obj))(H:Hp)(b:Addr):Prop :=
 H b=none/\b≠X.env.locals/\b∉X.fs/\(b∈X.ex\/X.s₀.heap.get? b=none)/\(∀x c,X.env.cells.lookup x=some c->c≠b)/\∀p∈X.pn++pins,p.1≠b
structure Fl(X:Cx)(ca:Nat->Addr)(a:Addr)(x:Xc)(H:Hp)(h:Heap):Prop where
 fp:FpW X [] H a
 ln:x.2=none
 ex:∃oe vs,h.get? a=some oe/\XOb ca x oe/\oe.data=.fields vs/\1<vs.size /\
  (vs[1]?=some .none\/∃T oT ts,vs[1]?=some (.ref T)/\T≠a/\FpW X [] H T/\h.get? T=some oT/\oT.data=.fields ts/\3<ts.size/\(ts[3]?=some .none\/ts[3]?=some (rawInt X.env.locals)))
noncomputable def XE(X:Cx)(ca:Nat->Addr)(Φ:XS):Value->Shared->Prop:=λv s=>∃a x σ H,v=.ref a/\Inv X [] σ H s/\Fl X ca a x H s.heap/\Φ x σ H
noncomputable abbrev xon(X:Cx)(pn:List (Addr×Obj)):Cx:={X with pn:=pn,xe:=λ_ _=>False}
noncomputable abbrev xat(X:Cx)(ca:Nat->Addr)(pn:List (Addr×Obj))(Φ:XS):Cx:={X with pn:=pn,xe:=XE (xon X pn) ca Φ}
def RaP(K:Frag)(ca:Nat->Addr)(Φ:XS)(σ:L2.St)(H:Hp)(μ:List Addr)(x:Xc)(g':G):Prop:=∀H' μ',Ext K μ H μ' H'->GRep K ca μ' H' g'->Φ x σ H'
noncomputable def Post(K:Frag)(ca:Nat->Addr)(Φ:XS)(σ:L2.St)(Q:VK)(H:Hp)(μ:List Addr):Res D->Prop
 |.ok d g'=>∀v H' μ',Ext K μ H μ' H'->GRep K ca μ' H' g'->Den K μ' H' v d->Q v H'
 |.raise x g'=>RaP K ca Φ σ H μ x g'
 |.stuck=>False
noncomputable def PostT(K:Frag)(ca:Nat->Addr)(Φ:XS)(σ:L2.St)(Q:Bool->Hp->Prop)(H:Hp)(μ:List Addr):Res Bool->Prop
 |.ok b g'=>∀H' μ',Ext K μ H μ' H'->GRep K ca μ' H' g'->Q b H'
 |.raise x g'=>RaP K ca Φ σ H μ x g'
 |.stuck=>False
noncomputable def PostA(K:Frag)(ca:Nat->Addr)(Φ:XS)(σ:L2.St)(Q:List V->Hp->Prop)(H:Hp)(μ:List Addr):Res (List D)->Prop
 |.ok ds g'=>∀vs H' μ',Ext K μ H μ' H'->GRep K ca μ' H' g'->Dens K μ' H' vs ds->Q vs H'
 |.raise x g'=>RaP K ca Φ σ H μ x g'
 |.stuck=>False
noncomputable def PostS(K:Frag)(ca:Nat->Addr)(Φ:XS)(E:Ends)(H:Hp)(μ:List Addr):Out->Prop
 |.nx σ3 g'=>∀σ' H' μ',Ext K μ H μ' H'->Rep K ca μ' σ3 g' σ' H'->E.nx σ' H'
 |.bk σ3 g'=>∀σ' H' μ',Ext K μ H μ' H'->Rep K ca μ' σ3 g' σ' H'->E.bk σ' H'
 |.ct σ3 g'=>∀σ' H' μ',Ext K μ H μ' H'->Rep K ca μ' σ3 g' σ' H'->E.ct σ' H'
 |.rt d g'=>∀v H' μ',Ext K μ H μ' H'->GRep K ca μ' H' g'->Den K μ' H' v d->E.rt v H'
 |.raise x σ3 g'=>∀σ' H' μ',Ext K μ H μ' H'->Rep K ca μ' σ3 g' σ' H'->Φ x σ' H'
 |.stuck=>False
noncomputable def up(K:Frag)(ca:Nat->Addr)(Φ:XS)(m:ME):TE:=λσ H Q=>∃σ3 g μ,Rep K ca μ σ3 g σ H/\Post K ca Φ σ Q H μ (m σ3 g)
noncomputable def upT(K:Frag)(ca:Nat->Addr)(Φ:XS)(m:MT):TT:=λσ H Q=>∃σ3 g μ,Rep K ca μ σ3 g σ H/\PostT K ca Φ σ Q H μ (m σ3 g)
noncomputable def upA(K:Frag)(ca:Nat->Addr)(Φ:XS)(m:MA):TA:=λσ H Q=>∃σ3 g μ,Rep K ca μ σ3 g σ H/\PostA K ca Φ σ Q H μ (m σ3 g)
noncomputable def upS(K:Frag)(ca:Nat->Addr)(Φ:XS)(m:MS):TS:=λE σ H=>∃σ3 g μ,Rep K ca μ σ3 g σ H/\PostS K ca Φ E H μ (m σ3 g)
def PE3(ca:Nat->Addr)(X:Cx)(e:Expr)(m:ME):Prop:=∀pn Φ,PE (xat X ca pn Φ) e (up X.K ca Φ m)
def PT3(ca:Nat->Addr)(X:Cx)(e:Expr)(m:MT):Prop:=∀pn Φ,PT (xat X ca pn Φ) e (upT X.K ca Φ m)
def PW3(ca:Nat->Addr)(X:Cx)(e:Expr)(m:MT):Prop:=∀pn Φ,PW (xat X ca pn Φ) e (upT X.K ca Φ m)
def PA3(ca:Nat->Addr)(X:Cx)(es:List Expr)(m:MA):Prop:=∀pn Φ,PA (xat X ca pn Φ) es (upA X.K ca Φ m)
def PS3(ca:Nat->Addr)(X:Cx)(st:Stmt)(m:MS):Prop:=∀pn Φ,PS (xat X ca pn Φ) st (upS X.K ca Φ m)
def PSs3(ca:Nat->Addr)(X:Cx)(sts:List Stmt)(m:MS):Prop:=∀pn Φ,PSs (xat X ca pn Φ) sts (upS X.K ca Φ m)
variable{Φ:XS}{σ:L2.St}
theorem RaP.go{x:Xc}{g':G}(e:Ext K μ H μ' H')(h:RaP K ca Φ σ H μ x g'):RaP K ca Φ σ H' μ' x g':=λH2 μ2 e2=>h H2 μ2 (e.trans e2)
theorem Post.go{Q:VK}{r:Res D}(e:Ext K μ H μ' H')(h:Post K ca Φ σ Q H μ r):Post K ca Φ σ Q H' μ' r:=by
 cases r with
 |ok d g'=>exact λv H2 μ2 e2=>h v H2 μ2 (e.trans e2)
 |raise _ _=>exact RaP.go e h
 |stuck=>exact h
theorem PostT.go{Q:Bool->Hp->Prop}{r:Res Bool}(e:Ext K μ H μ' H')(h:PostT K ca Φ σ Q H μ r):PostT K ca Φ σ Q H' μ' r:=by
 cases r with
 |ok d g'=>exact λH2 μ2 e2=>h H2 μ2 (e.trans e2)
 |raise _ _=>exact RaP.go e h
 |stuck=>exact h
theorem PostA.go{Q:List V->Hp->Prop}{r:Res (List D)}(e:Ext K μ H μ' H')(h:PostA K ca Φ σ Q H μ r):PostA K ca Φ σ Q H' μ' r:=by
 cases r with
 |ok d g'=>exact λv H2 μ2 e2=>h v H2 μ2 (e.trans e2)
 |raise _ _=>exact RaP.go e h
 |stuck=>exact h
theorem PostS.go{E:Ends}{r:Out}(e:Ext K μ H μ' H')(h:PostS K ca Φ E H μ r):PostS K ca Φ E H' μ' r:=by
 cases r with
 |nx _ _=>exact λv H2 μ2 e2=>h v H2 μ2 (e.trans e2)
 |bk _ _=>exact λv H2 μ2 e2=>h v H2 μ2 (e.trans e2)
 |ct _ _=>exact λv H2 μ2 e2=>h v H2 μ2 (e.trans e2)
 |rt _ _=>exact λv H2 μ2 e2=>h v H2 μ2 (e.trans e2)
 |raise _ _ _=>exact λv H2 μ2 e2=>h v H2 μ2 (e.trans e2)
 |stuck=>exact h
theorem Post.pure{Q:VK}{g:G}{v:V}{d:D}(h:Post K ca Φ σ Q H μ (.ok d g))(r:GRep K ca μ H g)(q:Den K μ H v d):Q v H:=h v H μ .refl r q
theorem RaP.stmt{x:Xc}{σ3:S3}{g g':G}{E:Ends}(R:Rep K ca μ σ3 g σ H)(h:PostS K ca Φ E H μ (.raise x σ3 g')):RaP K ca Φ σ H μ x g':=λH' μ' e r=>h σ H' μ' e (R.go e r)
theorem QeM{m:ME}{α:Type}{k:D->G->Res α}{σ3:S3}{g:G}(R:Rep K ca μ σ3 g σ H){P:Res α->Hp->List Addr->Prop}(hp:P ((m σ3 g).bind k) H μ)(hst:∀H μ,¬P .stuck H μ)(hra:∀e g H μ,P (.raise e g) H μ->RaP K ca Φ σ H μ e g)(hgo:∀r H μ H' μ',Ext K μ H μ' H'->P r H μ->P r H' μ'):
  up K ca Φ m σ H λx H1=>∃d g1 μ1,Ext K μ H μ1 H1/\Rep K ca μ1 σ3 g1 σ H1/\Den K μ1 H1 x d/\P (k d g1) H1 μ1:=by
 refine⟨σ3,g,μ,R,?_⟩
 cases hm:m σ3 g with
 |ok d g1 =>
  rw[hm]at hp
  exact λv H1 μ1 e1 r1 d1=>⟨d,g1,μ1,e1,R.go e1 r1,d1,hgo _ _ _ _ _ e1 hp⟩
 |raise e g1=>rw[hm]at hp;exact hra _ _ _ _ hp
 |stuck=>rw[hm]at hp;exact(hst _ _ hp).elim
theorem Jy{m:ME}{k:D->G->Res D}{σ3:S3}{g:G}{Q:VK}(R:Rep K ca μ σ3 g σ H)(hp:Post K ca Φ σ Q H μ ((m σ3 g).bind k)):
  up K ca Φ m σ H λx H1=>∃d g1 μ1,Ext K μ H μ1 H1/\Rep K ca μ1 σ3 g1 σ H1/\Den K μ1 H1 x d/\Post K ca Φ σ Q H1 μ1 (k d g1) :=
 QeM (P:=λr H μ=>Post K ca Φ σ Q H μ r) R hp (λ_ _ h=>h) (λ_ _ _ _ h=>h) λ_ _ _ _ _ e h=>h.go e
theorem QmP{m:ME}{k:D->G->Res Bool}{σ3:S3}{g:G}{Q:Bool->Hp->Prop}(R:Rep K ca μ σ3 g σ H)(hp:PostT K ca Φ σ Q H μ ((m σ3 g).bind k)):
  up K ca Φ m σ H λx H1=>∃d g1 μ1,Ext K μ H μ1 H1/\Rep K ca μ1 σ3 g1 σ H1/\Den K μ1 H1 x d/\PostT K ca Φ σ Q H1 μ1 (k d g1) :=
 QeM (P:=λr H μ=>PostT K ca Φ σ Q H μ r) R hp (λ_ _ h=>h) (λ_ _ _ _ h=>h) λ_ _ _ _ _ e h=>h.go e
theorem Qn0{m:ME}{k:D->G->Res (List D)}{σ3:S3}{g:G}{Q:List V->Hp->Prop}(R:Rep K ca μ σ3 g σ H)(hp:PostA K ca Φ σ Q H μ ((m σ3 g).bind k)):
  up K ca Φ m σ H λx H1=>∃d g1 μ1,Ext K μ H μ1 H1/\Rep K ca μ1 σ3 g1 σ H1/\Den K μ1 H1 x d/\PostA K ca Φ σ Q H1 μ1 (k d g1) :=
 QeM (P:=λr H μ=>PostA K ca Φ σ Q H μ r) R hp (λ_ _ h=>h) (λ_ _ _ _ h=>h) λ_ _ _ _ _ e h=>h.go e
theorem QfB{m:MT}{α:Type}{k:Bool->G->Res α}{σ3:S3}{g:G}(R:Rep K ca μ σ3 g σ H){P:Res α->Hp->List Addr->Prop}(hp:P ((m σ3 g).bind k) H μ)(hst:∀H μ,¬P .stuck H μ)(hra:∀e g H μ,P (.raise e g) H μ->RaP K ca Φ σ H μ e g)(hgo:∀r H μ H' μ',Ext K μ H μ' H'->P r H μ->P r H' μ'):
  upT K ca Φ m σ H λb H1=>∃g1 μ1,Ext K μ H μ1 H1/\Rep K ca μ1 σ3 g1 σ H1/\P (k b g1) H1 μ1:=by
 refine⟨σ3,g,μ,R,?_⟩
 cases hm:m σ3 g with
 |ok d g1 =>
  rw[hm]at hp
  exact λH1 μ1 e1 r1=>⟨g1,μ1,e1,R.go e1 r1,hgo _ _ _ _ _ e1 hp⟩
 |raise e g1=>rw[hm]at hp;exact hra _ _ _ _ hp
 |stuck=>rw[hm]at hp;exact(hst _ _ hp).elim
theorem QmQ{m:MT}{k:Bool->G->Res D}{σ3:S3}{g:G}{Q:VK}(R:Rep K ca μ σ3 g σ H)(hp:Post K ca Φ σ Q H μ ((m σ3 g).bind k)):
  upT K ca Φ m σ H λb H1=>∃g1 μ1,Ext K μ H μ1 H1/\Rep K ca μ1 σ3 g1 σ H1/\Post K ca Φ σ Q H1 μ1 (k b g1) :=
 QfB (P:=λr H μ=>Post K ca Φ σ Q H μ r) R hp (λ_ _ h=>h) (λ_ _ _ _ h=>h) λ_ _ _ _ _ e h=>h.go e
theorem Qhq{m:MT}{k:Bool->G->Res Bool}{σ3:S3}{g:G}{Q:Bool->Hp->Prop}(R:Rep K ca μ σ3 g σ H)(hp:PostT K ca Φ σ Q H μ ((m σ3 g).bind k)):
  upT K ca Φ m σ H λb H1=>∃g1 μ1,Ext K μ H μ1 H1/\Rep K ca μ1 σ3 g1 σ H1/\PostT K ca Φ σ Q H1 μ1 (k b g1) :=
 QfB (P:=λr H μ=>PostT K ca Φ σ Q H μ r) R hp (λ_ _ h=>h) (λ_ _ _ _ h=>h) λ_ _ _ _ _ e h=>h.go e
theorem QfC{m:MA}{α:Type}{k:List D->G->Res α}{σ3:S3}{g:G}(R:Rep K ca μ σ3 g σ H){P:Res α->Hp->List Addr->Prop}(hp:P ((m σ3 g).bind k) H μ)(hst:∀H μ,¬P .stuck H μ)(hra:∀e g H μ,P (.raise e g) H μ->RaP K ca Φ σ H μ e g)(hgo:∀r H μ H' μ',Ext K μ H μ' H'->P r H μ->P r H' μ'):
  upA K ca Φ m σ H λxs H1=>∃ds g1 μ1,Ext K μ H μ1 H1/\Rep K ca μ1 σ3 g1 σ H1/\Dens K μ1 H1 xs ds/\P (k ds g1) H1 μ1:=by
 refine⟨σ3,g,μ,R,?_⟩
 cases hm:m σ3 g with
 |ok d g1 =>
  rw[hm]at hp
  exact λv H1 μ1 e1 r1 d1=>⟨d,g1,μ1,e1,R.go e1 r1,d1,hgo _ _ _ _ _ e1 hp⟩
 |raise e g1=>rw[hm]at hp;exact hra _ _ _ _ hp
 |stuck=>rw[hm]at hp;exact(hst _ _ hp).elim
theorem QdZ{m:MA}{k:List D->G->Res D}{σ3:S3}{g:G}{Q:VK}(R:Rep K ca μ σ3 g σ H)(hp:Post K ca Φ σ Q H μ ((m σ3 g).bind k)):
  upA K ca Φ m σ H λxs H1=>∃ds g1 μ1,Ext K μ H μ1 H1/\Rep K ca μ1 σ3 g1 σ H1/\Dens K μ1 H1 xs ds/\Post K ca Φ σ Q H1 μ1 (k ds g1) :=
 QfC (P:=λr H μ=>Post K ca Φ σ Q H μ r) R hp (λ_ _ h=>h) (λ_ _ _ _ h=>h) λ_ _ _ _ _ e h=>h.go e
theorem QmR{m:MA}{k:List D->G->Res (List D)}{σ3:S3}{g:G}{Q:List V->Hp->Prop}(R:Rep K ca μ σ3 g σ H)(hp:PostA K ca Φ σ Q H μ ((m σ3 g).bind k)):
  upA K ca Φ m σ H λxs H1=>∃ds g1 μ1,Ext K μ H μ1 H1/\Rep K ca μ1 σ3 g1 σ H1/\Dens K μ1 H1 xs ds/\PostA K ca Φ σ Q H1 μ1 (k ds g1) :=
 QfC (P:=λr H μ=>PostA K ca Φ σ Q H μ r) R hp (λ_ _ h=>h) (λ_ _ _ _ h=>h) λ_ _ _ _ _ e h=>h.go e
theorem Zm{m:ME}{Q Q':VK}(h:up K ca Φ m σ H Q)(i:∀x H1,Q x H1->Q' x H1):up K ca Φ m σ H Q':=by
 obtain⟨σ3,g,μ,R,p⟩:=h
 refine⟨σ3,g,μ,R,?_⟩
 cases hm:m σ3 g with
 |ok d g1=>rw[hm]at p;exact λv H1 μ1 e r q=>i _ _ (p v H1 μ1 e r q)
 |raise e g1=>rw[hm]at p;exact p
 |stuck=>rw[hm]at p;exact p
theorem QbH{m:MT}{Q Q':Bool->Hp->Prop}(h:upT K ca Φ m σ H Q)(i:∀x H1,Q x H1->Q' x H1):upT K ca Φ m σ H Q':=by
 obtain⟨σ3,g,μ,R,p⟩:=h
 refine⟨σ3,g,μ,R,?_⟩
 cases hm:m σ3 g with
 |ok d g1=>rw[hm]at p;exact λH1 μ1 e r=>i _ _ (p H1 μ1 e r)
 |raise e g1=>rw[hm]at p;exact p
 |stuck=>rw[hm]at p;exact p
theorem J6{m:MA}{Q Q':List V->Hp->Prop}(h:upA K ca Φ m σ H Q)(i:∀x H1,Q x H1->Q' x H1):upA K ca Φ m σ H Q':=by
 obtain⟨σ3,g,μ,R,p⟩:=h
 refine⟨σ3,g,μ,R,?_⟩
 cases hm:m σ3 g with
 |ok d g1=>rw[hm]at p;exact λv H1 μ1 e r q=>i _ _ (p v H1 μ1 e r q)
 |raise e g1=>rw[hm]at p;exact p
 |stuck=>rw[hm]at p;exact p
end
theorem Zf{X:Cx}{e:Expr}{t t':TE}(h:PE X e t)(i:∀σ H Q,t' σ H Q->t σ H Q):PE X e t':=λpins s σ H Q I q=>h pins s σ H Q I (i σ H Q q)
theorem QeN{X:Cx}{e:Expr}{t t':TT}(h:PT X e t)(i:∀σ H Q,t' σ H Q->t σ H Q):PT X e t':=λpins s σ H Q I q=>h pins s σ H Q I (i σ H Q q)
theorem Qhr{X:Cx}{e:Expr}{t t':TT}(h:PW X e t)(i:∀σ H Q,t' σ H Q->t σ H Q):PW X e t':=λw pins s σ H Q I q=>h w pins s σ H Q I (i σ H Q q)
theorem Qhs{X:Cx}{e:List Expr}{t t':TA}(h:PA X e t)(i:∀σ H Q,t' σ H Q->t σ H Q):PA X e t':=λp pins s σ H Q I q=>h p pins s σ H Q I (i σ H Q q)
theorem Z9{X:Cx}{e:Stmt}{t t':TS}(h:PS X e t)(i:∀D σ H,t' D σ H->t D σ H):PS X e t':=λpins s σ H D I q=>h pins s σ H D I (i D σ H q)
theorem QfD{X:Cx}{e:List Stmt}{t t':TS}(h:PSs X e t)(i:∀D σ H,t' D σ H->t D σ H):PSs X e t':=λpins s σ H D I q=>h pins s σ H D I (i D σ H q)
section
variable{X:Cx}{ca:Nat->Addr}{a b c e:Expr}{es rest:List Expr}{ma mb me:ME}{tc ta tb:MT}{mr:MA}{pos:Pos}
theorem Qa(i:Nat){x:Str}(hN:X.N[i]?=some x:=by rfl)(hv:Vis X.env.scope x:=by first|exact Or.inl rfl|exact Or.inr (Or.inl rfl)|exact Or.inr (Or.inr rfl))(hd:(x == ("__debug__" : Str))=false:=by decide)(hcd:(x == ("__classdict__" : Str))=false:=by decide):PE3 ca X (.Name x pos) (mVar i) :=
 λpn Φ=>Zf (Qmc (X:=xat X ca pn Φ) hN hv hd hcd) λσ H Q hQ=>by
  obtain⟨σ3,g,μ,R,p⟩:=hQ
  unfold mVar at p
  cases e:σ3[i]? with
  |none=>rw[e]at p;exact p.elim
  |some o =>
   cases o with
   |none=>rw[e]at p;exact p.elim
   |some d =>
    rw[e]at p
    obtain⟨v,h1,h2⟩:=R.st i d e
    exact⟨v,h1,p v H μ .refl R.g h2⟩
theorem Qht{v:V}{d:D}(h:∀pn Φ,PE (xat X ca pn Φ) e (tC v))(hd:∀K μ H,Den K μ H v d):PE3 ca X e (mLit d) :=
 λpn Φ=>Zf (h pn Φ) λ_ H _ ⟨_,_,μ,R,p⟩=>p v H μ .refl R.g (hd _ _ _)
theorem Qh{i:Int}{j:Nat}:PE3 ca X (.Constant (.int i) j pos) (mLit (.int i)):=Qht (λ_ _=>Qmd) λ_ _ _=>.int i
theorem QeO{x:Str}{j:Nat}:PE3 ca X (.Constant (.str x) j pos) (mLit (.str x)):=Qht (λ_ _=>Qmf) λ_ _ _=>.str x
theorem r_bl{x:Bool}{j:Nat}:PE3 ca X (.Constant (.bool x) j pos) (mLit (.bl x)):=Qht (λ_ _=>QnG) λ_ _ _=>.bl x
theorem Jc{j:Nat}:PE3 ca X (.Constant .none j pos) (mLit .non):=Qht (λ_ _=>Qme) λ_ _ _=>.non
theorem Qko{x:Str}{v:V}{u:Value}{d:D}(hm:X.mg x=some u)(r:RelV v u)(hd':∀K μ H,Den K μ H v d)(hg:Gl X x:=by rfl)(hd:(x == ("__debug__" : Str))=false:=by decide):PE3 ca X (.Name x pos) (mLit d) :=
 Qht (λpn Φ=>Qg5 (X:=xat X ca pn Φ) hg hm r hd) hd'
noncomputable def Y4(K:Frag)(ca:Nat->Addr)(r:R2)(f:D->D->G->Res D):Prop :=
 ∀(Φ:XS)(σ:L2.St)(H:Hp)(μ:List Addr)(g:G)(x y:V)(dx dy:D)(Q:VK),GRep K ca μ H g->Den K μ H x dx->Den K μ H y dy->Post K ca Φ σ Q H μ (f dx dy g)->r x y H Q
theorem QfE{K:Frag}{Φ:XS}{r:R2}{f:D->D->G->Res D}(hp:Y4 K ca r f)(σ:L2.St)(H:Hp)(Q:VK)(h:up K ca Φ (mOp2 f ma mb) σ H Q):tOp r (up K ca Φ ma) (up K ca Φ mb) σ H Q:=by
 obtain⟨σ3,g,μ,R,p⟩:=h
 refine Zm (Jy R p) λx H1 ⟨dx,g1,μ1,e1,R1,q1,p1⟩=>?_
 refine Zm (Jy R1 p1) λy H2 ⟨dy,g2,μ2,e2,R2,q2,p2⟩=>?_
 exact hp Φ σ H2 μ2 g2 x y dx dy Q R2.g (q1.mono e2) q2 p2
theorem Qhu{op:Operator}{r:R2}{f:D->D->G->Res D}(ho:∀pn Φ,OpR (xat X ca pn Φ) (binaryOp op) r)(hp:Y4 X.K ca r f)(ha:PE3 ca X a ma)(hb:PE3 ca X b mb):PE3 ca X (.BinOp a op b pos) (mOp2 f ma mb) :=
 λpn Φ=>Zf (QnQ (ho pn Φ) (ha pn Φ) (hb pn Φ)) (QfE hp)
theorem Qd0{op:CmpOp}{r:R2}{f:D->D->G->Res D}(ho:∀pn Φ,OpR (xat X ca pn Φ) (compareOp op) r)(hp:Y4 X.K ca r f)(ha:PE3 ca X a ma)(hb:PE3 ca X b mb)(hm:behindInMarks op b=false):PE3 ca X (.Compare a [op] [b] pos) (mOp2 f ma mb) :=
 λpn Φ=>Zf (QkZ (ho pn Φ) (ha pn Φ) (hb pn Φ) hm) (QfE hp)
theorem r_ix{r:R2}{f:D->D->G->Res D}(ho:∀pn Φ,IxR (xat X ca pn Φ) r)(hp:Y4 X.K ca r f)(ha:PE3 ca X a ma)(hb:PE3 ca X b mb)(hs:QbU b:=by exact λ_ _=>rfl):PE3 ca X (.Subscript a b pos) (mOp2 f ma mb) :=
 λpn Φ=>Zf (QnW (ho pn Φ) (ha pn Φ) (hb pn Φ) hs) (QfE hp)
theorem r_un{op:UnaryOp}{r:V->Hp->VK->Prop}{f:D->G->Res D}(ho:∀pn Φ,UnR (xat X ca pn Φ) (unaryOp op) r)(hp:∀(Φ:XS) (σ:L2.St) (H:Hp) (μ:List Addr) (g:G) (x:V) (dx:D) (Q:VK),GRep X.K ca μ H g->Den X.K μ H x dx->Post X.K ca Φ σ Q H μ (f dx g)->r x H Q)(ha:PE3 ca X a ma):PE3 ca X (.UnaryOp op a pos) (mOp1 f ma) :=
 λpn Φ=>Zf (QnR (ho pn Φ) (ha pn Φ)) λσ H Q ⟨σ3,g,μ,R,p⟩=>Zm (Jy R p) λx H1 ⟨dx,g1,μ1,e1,R1,q1,p1⟩=>hp Φ σ H1 μ1 g1 x dx Q R1.g q1 p1
theorem Qp:PA3 ca X [] mNil:=λpn Φ=>Qhs (Qki (X:=xat X ca pn Φ)) λ_ H _ ⟨_,_,μ,R,p⟩=>p [] H μ .refl R.g .nil
theorem ZR(ha:PE3 ca X e me)(hr:PA3 ca X es mr)(hs:starEach (e::es) X.env=(false,eval e X.env)::starEach es X.env:=by rfl):PA3 ca X (e::es) (Qb me mr) :=
 λpn Φ=>Qhs (QeI (X:=xat X ca pn Φ) (ha pn Φ) (hr pn Φ) hs) λσ H Q ⟨σ3,g,μ,R,p⟩=>Zm (Qn0 R p) λx H1 ⟨d,g1,μ1,e1,R1,q1,p1⟩ =>
  J6 (QmR R1 p1) λxs H2 ⟨ds,g2,μ2,e2,R2,q2,p2⟩=>p2 (x::xs) H2 μ2 .refl R2.g (.cons (q1.mono e2) q2)
theorem ZI(ha:PE3 ca X a ma)(he:∀whole,isTrue a X.env whole=(do let v <-whole;standAt a.pos;holding [v] (truthy v)):=by intro _;rfl):PT3 ca X a (Qf ma) :=
 λpn Φ=>QeN (Qmg (X:=xat X ca pn Φ) (ha pn Φ) he) λσ H Q ⟨σ3,g,μ,R,p⟩=>Zm (QmP R p) λx H1 hQ=>by
  obtain⟨d,g1,μ1,e1,R1,q1,p1⟩:=hQ
  cases q1 with
  |bl b=>exact⟨b,rfl,p1 H1 μ1 .refl R1.g⟩
  |_=>exact p1.elim
theorem Jq{op:CmpOp}{r:R2}{f:D->D->G->Res D}(ho:∀pn Φ,OpR (xat X ca pn Φ) (compareOp op) r)(hp:Y4 X.K ca r f)(ha:PE3 ca X a ma)(hb:PE3 ca X b mb)(hm:behindInMarks op b=false):PT3 ca X (.Compare a [op] [b] pos) (Qf (mOp2 f ma mb)) :=
 λpn Φ=>QeN (Qk0 (ho pn Φ) (ha pn Φ) (hb pn Φ) hm) λσ H Q hQ=>by
  obtain⟨σ3,g,μ,R,p⟩:=hQ
  have q:up X.K ca Φ (mOp2 f ma mb) σ H λx H'=>∃k,x=.bl k/\Q k H':=Zm (QmP R p) λx H1 hQ=>by
   obtain⟨d,g1,μ1,e1,R1,q1,p1⟩:=hQ
   cases q1 with
   |bl b=>exact⟨b,rfl,p1 H1 μ1 .refl R1.g⟩
   |_=>exact p1.elim
  exact QfE hp σ H _ q
theorem Qbp(ha:PT3 ca X a ta):PT3 ca X (.UnaryOp .Not a pos) (QaB ta) :=
 λpn Φ=>QeN (Qmj (X:=xat X ca pn Φ) (ha pn Φ)) λσ H Q ⟨σ3,g,μ,R,p⟩=>QbH (Qhq R p) λb H1 ⟨g1,μ1,e1,R1,p1⟩=>p1 H1 μ1 .refl R1.g
theorem Jz(ha:PT3 ca X a ta):PW3 ca X (.BoolOp .And [a] pos) ta:=λpn Φ=>QkR (X:=xat X ca pn Φ) (ha pn Φ)
theorem QbX(ha:PT3 ca X a ta):PW3 ca X (.BoolOp .Or [a] pos) ta:=λpn Φ=>Qmh (X:=xat X ca pn Φ) (ha pn Φ)
theorem Qbq(ha:PT3 ca X a ta)(hb:PW3 ca X (.BoolOp .And (b::rest) pos) tb):PW3 ca X (.BoolOp .And (a::b::rest) pos) (ZN ta tb) :=
 λpn Φ=>Qhr (Qmi (X:=xat X ca pn Φ) (ha pn Φ) (hb pn Φ)) λσ H Q ⟨σ3,g,μ,R,p⟩=>QbH (Qhq R p) λb H1 hQ=>by
  obtain⟨g1,μ1,e1,R1,p1⟩:=hQ
  cases b with
  |true=>rw[Uc rfl]at p1 ⊢;exact⟨σ3,g1,μ1,R1,p1⟩
  |false=>rw[Uh Ud]at p1 ⊢;exact p1 H1 μ1 .refl R1.g
theorem Qd1(ha:PT3 ca X a ta)(hb:PW3 ca X (.BoolOp .Or (b::rest) pos) tb):PW3 ca X (.BoolOp .Or (a::b::rest) pos) (mOrT ta tb) :=
 λpn Φ=>Qhr (QnH (X:=xat X ca pn Φ) (ha pn Φ) (hb pn Φ)) λσ H Q ⟨σ3,g,μ,R,p⟩=>QbH (Qhq R p) λb H1 hQ=>by
  obtain⟨g1,μ1,e1,R1,p1⟩:=hQ
  cases b with
  |true=>rw[Uc rfl]at p1 ⊢;exact p1 H1 μ1 .refl R1.g
  |false=>rw[Uh Ud]at p1 ⊢;exact⟨σ3,g1,μ1,R1,p1⟩
theorem r_w(h:PW3 ca X e ta):PT3 ca X e ta:=λpn Φ=>(h pn Φ).pt
theorem QmS(ha:PE3 ca X a ma):PE3 ca X (.UnaryOp .Not a pos) (mNot ma) :=
 λpn Φ=>Zf (Qmm (X:=xat X ca pn Φ) (ha pn Φ)) λσ H Q ⟨σ3,g,μ,R,p⟩=>Zm (Jy R p) λx H1 hQ=>by
  obtain⟨d,g1,μ1,e1,R1,q1,p1⟩:=hQ
  cases q1 with
  |bl b=>exact⟨b,rfl,p1 _ H1 μ1 .refl R1.g (.bl _)⟩
  |_=>exact p1.elim
theorem QcD{op:BoolOp}(ha:PE3 ca X a ma):PE3 ca X (.BoolOp op [a] pos) ma:=λpn Φ=>Qmk (X:=xat X ca pn Φ) (ha pn Φ)
theorem Qbw(ha:PE3 ca X a ma)(hb:PE3 ca X (.BoolOp .And (b::rest) pos) mb):PE3 ca X (.BoolOp .And (a::b::rest) pos) (mAnd ma mb) :=
 λpn Φ=>Zf (Qml (X:=xat X ca pn Φ) (ha pn Φ) (hb pn Φ)) λσ H Q ⟨σ3,g,μ,R,p⟩=>Zm (Jy R p) λx H1 hQ=>by
  obtain⟨d,g1,μ1,e1,R1,q1,p1⟩:=hQ
  cases q1 with
  |bl b =>
   refine⟨b,rfl,?_⟩
   cases b with
   |true=>rw[Uc rfl];exact⟨σ3,g1,μ1,R1,p1⟩
   |false=>rw[Uh Ud];exact p1 _ H1 μ1 .refl R1.g (.bl _)
  |_=>exact p1.elim
theorem Qla(hc:PT3 ca X c tc)(ha:PE3 ca X a ma)(hb:PE3 ca X b mb):PE3 ca X (.IfExp c a b pos) (mIfE tc ma mb) :=
 λpn Φ=>Zf (QiV (X:=xat X ca pn Φ) (hc pn Φ) (ha pn Φ) (hb pn Φ)) λσ H Q ⟨σ3,g,μ,R,p⟩=>QbH (QmQ R p) λb H1 hQ=>by
  obtain⟨g1,μ1,e1,R1,p1⟩:=hQ
  cases b with
  |true=>rw[Uc rfl]at p1 ⊢;exact⟨σ3,g1,μ1,R1,p1⟩
  |false=>rw[Uh Ud]at p1 ⊢;exact⟨σ3,g1,μ1,R1,p1⟩
theorem JA:SZ<=sizeLine:=by rw[Re];decide
theorem Dens.sz{K:Frag}{μ:List Addr}{H:Hp}{vs:List V}{ds:List D}(h:Dens K μ H vs ds)(z:ds.length<=SZ):vs.length<=sizeLine:=by rw[h.length];exact Ux z JA
theorem YC{k:Nat}(h:PA3 ca X es mr):PE3 ca X (.Tuple es k pos) (mOpA pTup mr) :=
 λpn Φ=>Zf (QmF (X:=xat X ca pn Φ) (h pn Φ)) λσ H Q ⟨σ3,g,μ,R,p⟩=>J6 (QdZ R p) λxs H1 hQ=>by
  obtain⟨ds,g1,μ1,e1,R1,q1,p1⟩:=hQ
  unfold pTup at p1
  by_cases z:ds.length<=SZ
  ·rw[Uc z]at p1
   exact⟨q1.sz z,λt ht=>p1 _ _ μ1 (Q8 ht) (R1.g.new ht) (.tup (.of Qq) (q1.mono (Q8 ht)))⟩
  ·rw[Uh z]at p1;exact p1.elim
theorem QeP(h:PA3 ca X es mr):PE3 ca X (.List es pos) (mOpA newL mr) :=
 λpn Φ=>Zf (QmG (X:=xat X ca pn Φ) (h pn Φ)) λσ H Q ⟨σ3,g,μ,R,p⟩=>J6 (QdZ R p) λxs H1 hQ=>by
  obtain⟨ds,g1,μ1,e1,R1,q1,p1⟩:=hQ
  unfold newL at p1
  by_cases z:ds.length<=SZ
  ·rw[Uc z]at p1
   refine⟨q1.sz z,λt ht=>p1 _ _ (μ1++[t]) (QS ht) (R1.g.push ht ⟨xs,Qq,q1.mono (QS ht)⟩) (.ref ?_)⟩
   rw[<-R1.g.len];simp
  ·rw[Uh z]at p1;exact p1.elim
end
section
variable{X:Cx}{ca:Nat->Addr}{pins:List (Addr×Obj)}{σ:L2.St}{H:Hp}{s:Shared}{a:Addr}{x:Xc}{E:Value->Shared->Prop}
theorem QmT{pn:List (Addr×Obj)}{Φ:XS}(I:Inv (xat X ca pn Φ) pins σ H s):Inv (xon X pn) pins σ H s:=(Inv.wish I λ_ _=>False)
theorem Qhv{b:Addr}{H':Hp}(I:Inv X pins σ H s)(hb:s.heap.get? b=none)(hn:H' b=none):FpW X pins H' b:=by
 refine⟨hn,λz=>?_,λz=>?_,?_,λx c e z=>?_,λp hp z=>?_⟩
 ·obtain⟨m,⟨o,_,_,ho,_⟩,_⟩:=I.loc
  rw[z,ho]at hb;cases hb
 ·obtain⟨_,o,ho,_⟩:=I.funs.mem z
  rw[ho]at hb;cases hb
 ·by_cases hx:b∈X.ex
  ·exact .inl hx
  ·refine .inr ?_
   cases q:X.s₀.heap.get? b with
   |none=>rfl
   |some o =>
    obtain⟨o',e'⟩:=I.base.there b o q hx
    rw[e']at hb;cases hb
 ·obtain⟨v,o,ho,_⟩:=I.cell x c e
  rw[z,hb]at ho;cases ho
 ·rw[<-z,(I.pin p hp).1]at hb;cases hb
theorem Qhw{H':Hp}{h':Heap}{g':Array GenState}{t':Nat}{d':Drawn}{ch:List Addr}(I:Inv X pins σ H s)(hch:∀b∈ch,(b∈X.ex\/X.s₀.heap.get? b=none)/\b≠X.env.locals/\(∀x c,X.env.cells.lookup x=some c->c≠b)/\∀p∈X.pn++pins,p.1≠b)(keep:∀b o,b≠X.env.locals->b∉X.fs->b∉ch->s.heap.get? b=some o->H b=none->h'.get? b=some o)(slot:∀b o,b≠X.env.locals->b∈X.fs->b∉ch->s.heap.get? b=some o->H b=none->∃sl,h'.get? b=some {o with slots:=sl})(free:∀b o,b∉ch->s.heap.get? b=some o->H b=none->H' b=none)(there:∀b o,b∉ch->s.heap.get? b=some o->∃o',h'.get? b=some o')(tups:∀b xs,H b=some (.tup xs)->H' b=some (.tup xs))(frzs:∀b o u,H b=some (.frz o u)->H' b=some (.frz o u))(tbls:∀b ps,H b=some (.tbl ps)->∃more,H' b=some (.tbl (ps++more)))(ns:∀m,s.heap.Ns X.env.locals m->h'.Ns X.env.locals m)(hok:HOk X.prog X.w H' h')(hg:AllBare g'):
  Inv X pins σ H' {s with heap:=h',gens:=g',drawn:=d',toks:=t'}:=by
 have neL:∀b o,X.s₀.heap.get? b=some o->b≠X.env.locals:=λb o e=>UE (Uw (Uk e) I.ok.above)
 have neC:∀b o,X.s₀.heap.get? b=some o->b∉X.ex->b∉ch:=λb o e hx hb=>by
  rcases(hch b hb).1 with z|z
  ·exact hx z
  ·rw[z]at e;cases e
 have cellK:∀x c,X.env.cells.lookup x=some c->∀v,s.heap.IsCell c v->h'.IsCell c v:=λx c e v hQ=>by
  obtain⟨o,ho,hd⟩:=hQ
  have nch:c∉ch:=λz=>(hch c z).2.2.1 x c e rfl
  by_cases hc:c∈X.fs
  ·obtain⟨sl,q⟩:=slot c o (I.cne x c e) hc nch ho (I.freeC x c e)
   exact⟨_,q,hd⟩
  ·exact⟨o,keep c o (I.cne x c e) hc nch ho (I.freeC x c e),hd⟩
 refine⟨I.ok,I.os,hg,⟨λb o e n hb hx=>?_,λb o e n hb hx=>?_,λb o e n hx=>?_,λb o e hx=>?_,λb xs e=>tups b xs (I.base.tups b xs e),λb o xs e=>frzs b o xs (I.base.frzs b o xs e),λb ps e=>?_⟩,?_,λx c e=>?_,?_,λx c e=>?_,λp hp=>?_,hok,I.len⟩
 ·exact keep b o (neL b o e) hb (neC b o e hx) (I.base.keep b o e n hb hx) (I.base.free b o e n hx)
 ·obtain⟨sl,e1⟩:=I.base.slot b o e n hb hx
  obtain⟨sl',e2⟩:=slot b _ (neL b o e) hb (neC b o e hx) e1 (I.base.free b o e n hx)
  exact⟨sl',e2⟩
 ·obtain⟨o',e1⟩:=I.base.there b o e hx
  exact free b o' (neC b o e hx) e1 (I.base.free b o e n hx)
 ·obtain⟨o',e1⟩:=I.base.there b o e hx
  exact there b o' (neC b o e hx) e1
 ·obtain⟨m1,e1⟩:=I.base.tbls b ps e
  obtain⟨m2,e2⟩:=tbls b _ e1
  exact⟨m1++m2,by rw[e2,RJ]⟩
 ·obtain⟨m,hn,hl⟩:=I.loc
  refine⟨m,ns m hn,λi x v e1 e2 e3=>?_⟩
  obtain⟨u,r,l⟩:=hl i x v e1 e2 e3
  refine⟨u,r,?_⟩
  rcases l with l|⟨k,c,e,z⟩
  ·exact .inl l
  ·exact .inr ⟨k,c,e,cellK x c e _ z⟩
 ·obtain⟨v,z⟩:=I.cell x c e
  exact⟨v,cellK x c e v z⟩
 ·obtain⟨m,⟨o,_,_,ho,_⟩,_⟩:=I.loc
  exact free _ o (λz=>(hch _ z).2.1 rfl) ho I.free
 ·obtain⟨v,o,ho,hd⟩:=I.cell x c e
  exact free c o (λz=>(hch c z).2.2.1 x c e rfl) ho (I.freeC x c e)
 ·obtain⟨e,n,ne,nf,d⟩:=I.pin p hp
  have nch:p.1∉ch:=λz=>(hch p.1 z).2.2.2 p hp rfl
  exact⟨keep p.1 p.2 ne nf nch e n,free p.1 p.2 nch e n,ne,nf,d⟩
theorem QfF{ch:List Addr}{h':Heap}(I:Inv X pins σ H s)(hch:∀b∈ch,FpW X pins H b)(keep:∀b o,b∉ch->b≠X.env.locals->b∉X.fs->s.heap.get? b=some o->h'.get? b=some o)(slot:∀b o,b∉ch->s.heap.get? b=some o->∃sl,h'.get? b=some {o with slots:=sl}):Inv X pins σ H {s with heap:=h'}:=by
 have nl:X.env.locals∉ch:=λz=>(hch _ z).2.1 rfl
 have nt:∀b v,H b=some v->b∉ch:=λb v e z=>by rw[(hch b z).1]at e;cases e
 have nf:∀b v,H b=some v->b∉X.fs:=λb v e z=>by
  obtain⟨_,o,ho,_⟩:=I.ok.funs.mem z
  have:=I.base.free b o ho (I.ok.frf b z) λq=>I.ok.exfs b q z
  rw[this]at e;cases e
 have nL:∀b v,H b=some v->b≠X.env.locals:=λb v e z=>by rw[z,I.free]at e;cases e
 refine Qhw (h':=h') (H':=H) (g':=s.gens) (t':=s.toks) (d':=s.drawn) (ch:=ch) I (λb hb=>⟨(hch b hb).2.2.2.1,(hch b hb).2.1,(hch b hb).2.2.2.2.1,(hch b hb).2.2.2.2.2⟩) (λb o h1 h2 h3 e _=>keep b o h3 h1 h2 e) (λb o _ _ h3 e _=>slot b o h3 e)
  (λb o _ _ n=>n) (λb o h e=>let ⟨sl,q⟩:=slot b o h e;⟨_,q⟩) (λb v e=>e) (λb o v e=>e) (λb ps e=>⟨#[],by rw[e];simp⟩) (λm hm=>?_) (λb v e=>?_) I.bare
 ·obtain⟨o,es,ep,ho,rr⟩:=hm
  obtain⟨sl,q⟩:=slot _ o nl ho
  exact⟨_,es,ep,q,rr⟩
 ·refine(I.hok b v e).stay (λc' v' hc' q=>?_) (λc' q=>q) λc' xs' q=>q
  rcases hc' with rfl|hc'
  ·exact keep _ _ (nt _ _ e) (nL _ _ e) (nf _ _ e) q
  ·exact keep _ _ (nt _ _ hc') (nL _ _ hc') (nf _ _ hc') q
noncomputable def FlN(X:Cx)(ca:Nat->Addr)(a:Addr)(x:Xc)(H:Hp)(h:Heap):Prop :=
 FpW X [] H a/\x.2=none/\∃oe vs T oT ts,h.get? a=some oe/\XOb ca x oe/\oe.data=.fields vs/\vs[1]?=some (.ref T)/\T≠a/\FpW X [] H T/\h.get? T=some oT/\oT.data=.fields ts/\ts[3]?=some (rawInt X.env.locals)
noncomputable def FlT(X:Cx)(ca:Nat->Addr)(a:Addr)(x:Xc)(H:Hp)(h:Heap):Prop :=
 FpW X [] H a/\x.2=none/\∃oe vs T oT ts,h.get? a=some oe/\XOb ca x oe/\oe.data=.fields vs/\vs[1]?=some (.ref T)/\T≠a/\FpW X [] H T/\h.get? T=some oT/\oT.data=.fields ts/\3<ts.size
theorem FlN.t{h:Heap}(f:FlN X ca a x H h):FlT X ca a x H h:=by
 obtain⟨f1,f2,oe,vs,T,oT,ts,e1,e2,e3,e4,e5,e6,e7,e8,e9⟩:=f
 exact⟨f1,f2,oe,vs,T,oT,ts,e1,e2,e3,e4,e5,e6,e7,e8,(U4.mp e9).1⟩
theorem FlN.fl{h:Heap}(f:FlN X ca a x H h):Fl X ca a x H h:=by
 obtain⟨f1,f2,oe,vs,T,oT,ts,e1,e2,e3,e4,e5,e6,e7,e8,e9⟩:=f
 exact⟨f1,f2,oe,vs,e1,e2,e3,(U4.mp e4).1,.inr ⟨T,oT,ts,e4,e5,e6,e7,e8,(U4.mp e9).1,.inr e9⟩⟩
theorem QcQ{h:Heap}{b:Addr}{o:Obj}{ts:Array Value}(i:Nat)(v:Value)(e:h.get? b=some o)(d:o.data=.fields ts):
  (h.update b (Obj.mapFields (·.setIfInBounds i v))).get? b=some (o.mapFields (·.setIfInBounds i v))/\(o.mapFields (·.setIfInBounds i v)).data=.fields (ts.setIfInBounds i v)/\(o.mapFields (·.setIfInBounds i v)).cls=o.cls :=
 ⟨TH _ e (TZ (Tk d _)),Tk d _,RT _ _⟩
theorem QfG{base:Heap}{env:Env}{outer:List Env}{L:Addr}{oe:Obj}{vs:Array Value}{head:Value}{hn:Bool}{M:Model}{A:Around}{Q:Unit->Shared->Prop}(hfr:A.frames=some (env::outer))(hl:s.heap.FunFrames base (env::outer))(hf:env.frame=some L)(he:s.heap.get? a=some oe)(hd:oe.data=.fields vs)(hsz:1<vs.size)(ha:a∉(env::outer).filterMap (·.frame))(k:∀h₁ (cells:Array Value),Heap.SlotsOnly ((env::outer).filterMap (·.frame)) s.heap h₁->cells[3]?=some (rawInt L) ->
   Q () {s with heap:=(h₁.push {cls:=.type "traceback",dict:=none,data:=.fields cells}).update a (Obj.mapFields (·.setIfInBounds 1 (.ref h₁.objs.size)))}):
  wpAny M A (do let fv <-frameOf env;let pl <-entryPlaceOf L hn;let b <-EntryCells.newEntry head fv .none (rawInt L) .none pl;setField (.ref a) 1 b) Q E s:=by
 refine Ua (wpAny_frameOf_fun hfr hl hf λh₁ so=>Ua (wpAny_entryPlaceOf λpl hpl=>?_))
 unfold EntryCells.newEntry newFields
 refine Ua (U2 ?_ (hpl.sizeOk5 _ _ _ _ _))
 have e1:h₁.get? a=some oe:=(so.2.1 a ha).trans he
 refine TK (Ub _ e1) hd hsz (k h₁ _ so ?_)
 first
  | (simp;done)
  | (rcases hpl with rfl|⟨_,_,_,_,_,_,_,rfl⟩ <;> simp)
theorem Qhx{M:Model}{Q:Unit->Shared->Prop}(I:Inv X [] σ H s)(hk:X.stack=X.env::X.outer)(hf:X.env.frame=some X.env.locals)(fl:Fl X ca a x H s.heap)(k:∀h',Inv X [] σ H {s with heap:=h'}->FlN X ca a x H h'->Q () {s with heap:=h'}):wpAny M X.A (noteFrame (.ref a) X.env) Q E s:=by
 obtain⟨fp,ln,oe,vs,he,hc,hd,hsz,hv⟩:=fl
 have hfr:X.A.frames=some (X.env::X.outer):=by rw[<-hk];exact I.ok.frames
 have hst:s.heap.FunFrames X.base (X.env::X.outer):=by rw[<-hk];exact I.stack
 have hfs:(X.env::X.outer).filterMap (·.frame)=X.env.locals::X.fs:=by rw[Tu,hf];rfl
 have ha:a∉(X.env::X.outer).filterMap (·.frame):=by
  rw[hfs]
  intro z
  rcases Uu.mp z with z|z
  ·exact fp.2.1 z
  ·exact fp.2.2.1 z
 -- an entry is laid over a heap that differs from s at ch alone
 have fin:∀(h0 h₁:Heap)(cells:Array Value)(ch:List Addr),(∀b∈ch,FpW X [] H b)->(∀b o,b∉ch->s.heap.get? b=some o->h0.get? b=some o)->h0.objs.size=s.heap.objs.size->h0.get? a=some oe ->
   Heap.SlotsOnly ((X.env::X.outer).filterMap (·.frame)) h0 h₁->cells[3]?=some (rawInt X.env.locals) ->
   Q () {s with heap:=(h₁.push {cls:=.type "traceback",dict:=none,data:=.fields cells}).update a (Obj.mapFields (·.setIfInBounds 1 (.ref h₁.objs.size)))}:=by
  intro h0 h₁ cells ch hch hk0 hz he0 so hcl
  have e1:h₁.get? a=some oe:=(so.2.1 a ha).trans he0
  obtain⟨u1,u2,u3⟩:=QcQ 1 (.ref h₁.objs.size) (Ub {cls:=.type "traceback",dict:=none,data:=.fields cells} e1) hd
  have hTa:h₁.objs.size≠a:=Rj (Uk e1)
  have oth:∀b o,b≠a->h₁.get? b=some o->((h₁.push {cls:=.type "traceback",dict:=none,data:=.fields cells}).update a (Obj.mapFields (·.setIfInBounds 1 (.ref h₁.objs.size)))).get? b=some o:=λb o hb e =>
   (U7 _ _ (Ne.symm hb)).trans (Ub _ e)
  refine k _ (QfF (ch:=a::ch) I (λb hb=>?_) (λb o h1 h2 h3 e=>?_) λb o h1 e=>?_) ⟨fp,ln,_,_,h₁.objs.size,_,cells,u1,hc.map _,u2,by simp[hsz],hTa,?_,(U7 _ _ (Ne.symm hTa)).trans (Ul _ rfl),rfl,hcl⟩
  ·rcases Uu.mp hb with e|e
   ·rw[e];exact fp
   ·exact hch b e
  ·refine oth b o (λz=>h1 (by rw[z];exact Ur)) ?_
   rw[so.2.1 b (by rw[hfs];intro z;rcases Uu.mp z with z|z;(· exact h2 z);exact h3 z)]
   exact hk0 b o (λz=>h1 (Ut _ z)) e
  ·obtain⟨sl,q⟩:=so.2.2 b o (hk0 b o (λz=>h1 (Ut _ z)) e)
   exact⟨sl,oth b _ (λz=>h1 (by rw[z];exact Ur)) q⟩
  ·refine Qhv I (Heap.get?_none_of_le ?_) (I.hok.fresh ?_) <;> rw[so.1,hz] <;> exact Ug _
 unfold noteFrame
 simp only[hf]
 rcases hv with hv|⟨T,oT,ts,hv,hTa,fT,hT,hdT,hs3,h3⟩
 ·refine Ua (UM he hd hv ?_)
  rw[Uh (by decide)]
  exact QfG hfr hst hf he hd hsz ha λh₁ cells so hcl=>fin s.heap h₁ cells [] (by simp) (λ_ _ _ e=>e) rfl he so hcl
 ·refine Ua (UM he hd hv ?_)
  rw[Uc (show(Value.ref T != Value.none)=true from by simp)]
  rcases h3 with h3|h3
  ·refine Ua (UM hT hdT h3 ?_)
   rw[Uh (show ¬((Value.none == rawInt X.env.locals)=true) from by simp[rawInt])]
   refine Ua (TK hT hdT hs3 ?_)
   have oth:∀b o,b≠T->s.heap.get? b=some o->(s.heap.update T (Obj.mapFields (·.setIfInBounds 3 Value.none))).get? b=some o:=λb o hb e=>(U7 _ _ (Ne.symm hb)).trans e
   have kp:∀b o,s.heap.get? b=some o->(∀vs,o.data≠.fields vs)->(s.heap.update T (Obj.mapFields (·.setIfInBounds 3 Value.none))).get? b=some o:=λb o e n=>oth b o (λz=>by rw[z,hT]at e;cases e;exact n _ hdT) e
   refine QfG (s:={s with heap:=s.heap.update T (Obj.mapFields (·.setIfInBounds 3 Value.none))}) hfr (hst.of_keeps λb o e n=>⟨o,kp b o e n,rfl⟩) hf (oth a oe (Ne.symm hTa) he) hd hsz ha λh₁ cells so hcl=>?_
   exact fin _ h₁ cells [T] (λb hb=>by rw[Uf.mp hb];exact fT) (λb o hb e=>oth b o (λz=>hb (by simp[z])) e) (Heap.size_after_update ..) (oth a oe (Ne.symm hTa) he) so hcl
  ·refine Ua (UM hT hdT h3 ?_)
   rw[Uc (show(rawInt X.env.locals == rawInt X.env.locals)=true from by simp)]
   exact Uj (k s.heap I ⟨fp,ln,oe,vs,T,oT,ts,he,hc,hd,hv,hTa,fT,hT,hdT,h3⟩)
theorem Qd2{M:Model}{A:Around}{Q:Unit->Shared->Prop}{fo:Option Addr}(I:Inv X [] σ H s)(fl:FlT X ca a x H s.heap)(k:∀h' T oT ts oe vs,Inv X [] σ H {s with heap:=h'}->h'.get? a=some oe->XOb ca x oe->oe.data=.fields vs->vs[1]?=some (.ref T)->T≠a->FpW X [] H T ->
      h'.get? T=some oT->oT.data=.fields ts->3<ts.size->ts[3]?=some (fo.elim Value.none λf=>rawInt f)->Q () {s with heap:=h'}):wpAny M A (setFlight (.ref a) fo) Q E s:=by
  obtain⟨fp,ln,oe,vs,T,oT,ts,he,hc,hd,hv,hTa,fT,hT,hdT,hs3⟩:=fl
  unfold setFlight
  refine Ua (UM he hd hv ?_)
  rw[Uc (show(Value.ref T != Value.none)=true from by simp)]
  have oth:∀b o,b≠T->s.heap.get? b=some o->(s.heap.update T (Obj.mapFields (·.setIfInBounds 3 (fo.elim Value.none λf=>rawInt f)))).get? b=some o:=λb o hb e=>(U7 _ _ (Ne.symm hb)).trans e
  obtain⟨u1,u2,u3⟩:=QcQ 3 (fo.elim Value.none λf=>rawInt f) hT hdT
  refine TK hT hdT hs3 (k _ T _ _ oe vs (QfF (ch:=[T]) I (λb hb=>by rw[Uf.mp hb];exact fT) (λb o h1 _ _ e=>oth b o (λz=>h1 (by simp[z])) e) λb o h1 e=>⟨o.slots,oth b o (λz=>h1 (by simp[z])) e⟩)
    (oth a oe (Ne.symm hTa) he) hc hd hv hTa fT u1 u2 (by simpa using hs3) (by simp[hs3]))
theorem Qkp(hk:X.stack=X.env::X.outer)(hf:X.env.frame=some X.env.locals)(pn:List (Addr×Obj))(Φ:XS):PassesOwn (model X.prog X.w) X.A X.env (xat X ca pn Φ).xe:=by
 rintro v s ⟨a,x,σ,H,rfl,I,fl,q⟩
 refine Qhx (X:=xon X pn) I hk hf fl λh1 I1 f1=>?_
 unfold cameBackBy
 obtain⟨fp,ln,oe,vs,T,oT,ts,he,hc,hd,hv,hTa,fT,hT,hdT,h3⟩:=id f1
 refine Ua (UM he hd hv ?_)
 rw[Uh (show ¬((Value.ref T == Value.none)=true) from by simp)]
 refine Qd2 (X:=xon X pn) (fo:=X.env.frame) I1 f1.t λh2 T oT ts oe vs I2 a1 a2 a3 a4 a5 a6 a7 a8 a9 a10=>?_
 rw[hf]at a10
 exact⟨a,x,σ,H,rfl,I2,FlN.fl ⟨fp,ln,oe,vs,T,oT,ts,a1,a2,a3,a4,a5,a6,a7,a8,a10⟩,q⟩
end
noncomputable def CXW(P:Program)(w:World)(ca:Nat->Addr):CXT:=λouter H s E v s'=>∃(a:Addr)(x:Xc)(H':Hp),v=.ref a/\s'.os=s.os/\AllBare s'.gens/\Un (frs outer) [] H H' s.heap s'.heap/\HOk P w H' s'.heap/\x.2=none /\
 (∃oe vs T oT ts,s.heap.get? a=none/\H' a=none/\s'.heap.get? a=some oe/\XOb ca x oe/\oe.data=.fields vs/\vs[1]?=some (.ref T)/\T≠a/\s.heap.get? T=none/\H' T=none/\s'.heap.get? T=some oT/\oT.data=.fields ts/\ts[3]?=some .none) /\
 E (.int x.1 0) x.2 H'
section
variable{P:Program}{w:World}{K:Frag}{mg:Str->Option Value}{base:Heap}{ca:Nat->Addr}
theorem Qi6{N:List Str}{qual:Str}{scope:Scope}{f:Addr}{cd:Value}{A:Around}{outer:List Env}{s s':Shared}{H:Hp}{E:XK}{v:Value}(h:XE (xon (cxOf (CXW P w ca) P w K mg base N qual scope f cd A outer s H E) []) ca (λx _ H'=>E (.int x.1 0) x.2 H') v s'):(cxOf (CXW P w ca) P w K mg base N qual scope f cd A outer s H E).xe v s':=by
 obtain⟨a,x,σ,H',rfl,I,fl,q⟩:=h
 show wpAny _ _ (leaving _ (.ref a)) _ _ s'
 unfold leaving
 refine Ua (Qhx I rfl rfl fl λh1 I1 f1=>?_)
 obtain⟨fp,ln,_⟩:=id f1
 refine Qd2 (fo:=none) I1 f1.t λh2 T oT ts oe vs I2 a1 a2 a3 a4 a5 a6 a7 a8 a9 a10=>?_
 refine⟨a,x,H',rfl,I2.os,I2.bare,I2.base,I2.hok,ln,⟨oe,vs,T,oT,ts,?_,fp.1,a1,a2,a3,a4,a5,?_,a6.1,a7,a8,a10⟩,q⟩
 ·rcases fp.2.2.2.1 with z|z
  ·exact absurd (show a∈([]:List Addr) from z) (by simp)
  ·exact z
 ·rcases a6.2.2.2.1 with z|z
  ·exact absurd (show T∈([]:List Addr) from z) (by simp)
  ·exact z
end
section
variable{X:Cx}{ca:Nat->Addr}{pn:List (Addr×Obj)}{Φ:XS}
theorem Qhy{pins:List (Addr×Obj)}{σ:L2.St}{H:Hp}{s s':Shared}{v:Value}(I:Inv (xat X ca pn Φ) pins σ H s)(h:CXW X.prog X.w ca X.stack H s (λc l H'=>∀x:Xc,c=.int x.1 0->l=x.2->Φ x σ H') v s'):(xat X ca pn Φ).xe v s':=by
 obtain⟨a,x,H',rfl,os,bare,un,hok,ln,⟨oe,vs,T,oT,ts,e1,e2,e3,e4,e5,e6,e7,e8,e9,e10,e11,e12⟩,q⟩:=h
 have I0:Inv (xon X pn) [] σ H s:=(QmT I).pins_of λp hp=>absurd hp (by simp)
 have I1:Inv (xon X pn) [] σ H' s':=Inv.call' (ch:=[]) I0 os un hok bare λb z=>absurd z (by simp)
 refine⟨a,x,σ,H',rfl,I1,⟨Qhv I0 e1 e2,ln,oe,vs,e3,e4,e5,(U4.mp e6).1,.inr ⟨T,oT,ts,e6,e7,Qhv I0 e8 e9,e10,e11,(U4.mp e12).1,.inl e12⟩⟩,q x rfl rfl⟩
end
section
variable{X:Cx}{ca:Nat->Addr}{a b c e:Expr}{st:Stmt}{sts rest:List Stmt}{ma mb me:ME}{tc:MT}{m m':MS}{pos:Pos}
theorem QG:PSs3 ca X [] QN:=λpn Φ=>QfD (QkS (X:=xat X ca pn Φ)) λ_ σ H ⟨_,_,μ,R,p⟩=>p σ H μ .refl R
theorem QmU{K:Frag}{Φ:XS}(E:Ends)(σ:L2.St)(H:Hp)(h:upS K ca Φ (mSeq m m') E σ H):tSeq (upS K ca Φ m) (upS K ca Φ m') E σ H:=by
 obtain⟨σ3,g,μ,R,p⟩:=h
 refine⟨σ3,g,μ,R,?_⟩
 unfold mSeq at p
 cases hm:m σ3 g with
 |nx σ1 g1 =>
  rw[hm]at p
  exact λσ' H' μ' e' R'=>⟨σ1,g1,μ',R',PostS.go e' p⟩
 |rt d g1=>rw[hm]at p;exact p
 |bk _ _=>rw[hm]at p;exact p
 |ct _ _=>rw[hm]at p;exact p
 |raise _ _ _=>rw[hm]at p;exact p
 |stuck=>rw[hm]at p;exact p
theorem Qc(h1:PS3 ca X st m)(h2:PSs3 ca X rest m'):PSs3 ca X (st::rest) (mSeq m m'):=λpn Φ=>QfD (QiW (X:=xat X ca pn Φ) (h1 pn Φ) (h2 pn Φ)) QmU
theorem Qj(h1:PS3 ca X st m):PSs3 ca X [st] m:=λpn Φ=>QkT (X:=xat X ca pn Φ) (h1 pn Φ)
theorem QbY:PS3 ca X st Qbo:=λpn Φ=>Z9 (QiX (X:=xat X ca pn Φ)) λ_ _ _ ⟨_,_,_,_,p⟩=>p
theorem Jd(he:PE3 ca X e me)(hs:swapsWith e none pos.line X.env=pure false:=by rfl):PS3 ca X (.Expr e pos) (Z7 me) :=
 λpn Φ=>Z9 (QkU (X:=xat X ca pn Φ) (he pn Φ) hs) λE σ H ⟨σ3,g,μ,R,p⟩=>⟨σ3,g,μ,R,by
  unfold Z7 at p
  cases hm:me σ3 g with
  |ok d g1=>rw[hm]at p;exact λv H' μ' e' r' _=>p σ H' μ' e' (R.go e' r')
  |raise _ _=>rw[hm]at p;exact RaP.stmt R p
  |stuck=>rw[hm]at p;exact p⟩
theorem QL(he:PE3 ca X e me):PS3 ca X (.Return (some e) pos) (mRet me) :=
 λpn Φ=>Z9 (Qmn (X:=xat X ca pn Φ) (he pn Φ)) λE σ H ⟨σ3,g,μ,R,p⟩=>⟨σ3,g,μ,R,by
  unfold mRet at p
  cases hm:me σ3 g with
  |ok d g1=>rw[hm]at p;exact p
  |raise _ _=>rw[hm]at p;exact RaP.stmt R p
  |stuck=>rw[hm]at p;exact p⟩
theorem r_if{sa sb:List Stmt}(hc:PT3 ca X c tc)(ha:PSs3 ca X sa m)(hb:PSs3 ca X sb m'):PS3 ca X (.If c sa sb pos) (mIf tc m m') :=
 λpn Φ=>Z9 (QnM (X:=xat X ca pn Φ) (hc pn Φ) (ha pn Φ) (hb pn Φ)) λE σ H ⟨σ3,g,μ,R,p⟩=>⟨σ3,g,μ,R,by
  unfold mIf at p
  cases hm:tc σ3 g with
  |ok d g1 =>
   rw[hm]at p
   cases d with
   |true=>exact λH' μ' e' r'=>by show(if true=true then _ else _);rw[Uc rfl];exact⟨σ3,g1,μ',R.go e' r',PostS.go e' (by simpa using p)⟩
   |false=>exact λH' μ' e' r'=>by show(if false=true then _ else _);rw[Uh Ud];exact⟨σ3,g1,μ',R.go e' r',PostS.go e' (by simpa using p)⟩
  |raise _ _=>rw[hm]at p;exact RaP.stmt R p
  |stuck=>rw[hm]at p;exact p⟩
noncomputable def upG(K:Frag)(ca:Nat->Addr)(f:MG):TG:=λv σ H Q=>∃σ3 g μ d σ3',Rep K ca μ σ3 g σ H/\Den K μ H v d/\f d σ3=some σ3'/\∀σ',Rep K ca μ σ3' g σ' H->Q σ' H
def PG3(ca:Nat->Addr)(X:Cx)(tg:Expr)(f:MG):Prop:=∀pn Φ,PG (xat X ca pn Φ) tg (upG X.K ca f)
theorem Qhz{X:Cx}{tg:Expr}{t t':TG}(h:PG X tg t)(i:∀v σ H Q,t' v σ H Q->t v σ H Q):PG X tg t':=λpins s σ H x u Q I r q=>h pins s σ H x u Q I r (i x σ H Q q)
theorem Rep.set{K:Frag}{μ:List Addr}{σ3:S3}{g:G}{σ:L2.St}{H:Hp}{v:V}{d:D}(R:Rep K ca μ σ3 g σ H)(h:Den K μ H v d)(i:Nat):Rep K ca μ (σ3.set i (some d)) g (σ.set i (some v)) H:=by
 refine⟨R.g,by rw[UR,UR,R.len],λj x hx=>?_⟩
 by_cases e:j=i
 ·subst e
  have hl:j<σ3.length:=by
   have:=(Ue.mp hx).1
   simpa using this
  rw[UW hl]at hx
  cases hx
  exact⟨v,by rw[UW (by rw[R.len];exact hl)],h⟩
 ·rw[Ui (Ne.symm e)]at hx
  obtain⟨w,h1,h2⟩:=R.st j x hx
  exact⟨w,by rw[Ui (Ne.symm e)];exact h1,h2⟩
theorem QK(i:Nat){x:Str}(hN:X.N.Nodup)(hi:X.N[i]?=some x:=by rfl)(hx:Loc X.env.scope x:=by first|exact Or.inl rfl|exact Or.inr rfl)(hf:X.fn x=true\/X.env.scope.names.lookup x=some .local:=by first|exact .inl rfl|exact .inr rfl):PG3 ca X (.Name x pos) (gSet i) :=
 λpn Φ=>Qhz (QkV (X:=xat X ca pn Φ) hN hi hx hf) λv σ H Q hQ=>by
  obtain⟨σ3,g,μ,d,σ3',R,q,e,k⟩:=hQ
  cases e
  exact k _ (R.set q i)
noncomputable def upGs(K:Frag)(ca:Nat->Addr)(fs:List MG):TGs:=λvs σ H Q=>∃σ3 g μ ds σ3',Rep K ca μ σ3 g σ H/\Dens K μ H vs ds/\Qgt fs ds σ3=some σ3'/\∀σ',Rep K ca μ σ3' g σ' H->Q σ' H
def PGs3(ca:Nat->Addr)(X:Cx)(tgs:List Expr)(fs:List MG):Prop:=∀pn Φ,PGs (xat X ca pn Φ) tgs (upGs X.K ca fs)
theorem QfH{X:Cx}{tg:List Expr}{t t':TGs}(h:PGs X tg t)(i:∀v σ H Q,t' v σ H Q->t v σ H Q):PGs X tg t':=λpins s σ H xs us Q I r q=>h pins s σ H xs us Q I r (i xs σ H Q q)
theorem QaD:PGs3 ca X [] []:=λpn Φ=>QfH (QkW (X:=xat X ca pn Φ)) λvs σ H Q hQ=>by
 obtain⟨σ3,g,μ,ds,σ3',R,q,e,k⟩:=hQ
 cases q with
 |nil=>cases e;exact⟨rfl,k _ R⟩
 |cons _ _=>cases e
theorem Q9{es:List Expr}{f:MG}{fs:List MG}(h1:PG3 ca X e f)(h2:PGs3 ca X es fs)(hs:(assignEach (e::es) X.env).map (·.2)=assign e X.env::(assignEach es X.env).map (·.2):=by rfl):PGs3 ca X (e::es) (f::fs) :=
 λpn Φ=>QfH (QiY (X:=xat X ca pn Φ) (h1 pn Φ) (h2 pn Φ) hs) λvs σ H Q hQ=>by
  obtain⟨σ3,g,μ,ds,σ3',R,q,e,k⟩:=hQ
  cases q with
  |nil=>cases e
  |@cons v d vs ds q1 q2 =>
   unfold Qgt at e
   cases hf:f d σ3 with
   |none=>rw[hf]at e;cases e
   |some σ4 =>
    rw[hf]at e
    exact⟨v,vs,rfl,σ3,g,μ,d,σ4,R,q1,hf,λσ' R'=>⟨σ4,g,μ,ds,σ3',R',q2,e,k⟩⟩
theorem Qd3:∀{fs:List MG}{ds:List D}{σ σ':S3},Qgt fs ds σ=some σ'->ds.length=fs.length
 |[],[],_,_,_=>rfl
 |[],_::_,_,_,h=>by cases h
 |_::_,[],_,_,h=>by cases h
 |f::fs,d::ds,σ,σ',h=>by
  unfold Qgt at h
  cases hf:f d σ with
  |none=>rw[hf]at h;cases h
  |some σ4 =>
   rw[hf]at h
   rw[UN,UN,Qd3 (fs:=fs) h]
theorem QaE{es:List Expr}{k:Nat}{fs:List MG}(hc:X.calm=true)(h:PGs3 ca X es fs)(hn:(assignEach es X.env).length=fs.length:=by rfl)(hst:(assignEach es X.env).findIdx? (·.1)=none:=by rfl):PG3 ca X (.Tuple es k pos) (Yo fs) :=
 λpn Φ=>Qhz (Qmq (X:=xat X ca pn Φ) hc (h pn Φ) hn hst) λv σ H Q hQ=>by
  obtain⟨σ3,g,μ,d,σ3',R,q,e,kk⟩:=hQ
  cases q with
  |@tup a vs ds ht hs =>
   exact⟨a,vs,rfl,ht,hs.length.trans (Qd3 e),σ3,g,μ,ds,σ3',R,hs,e,kk⟩
  |_=>cases e
theorem QmV{K:Frag}{Φ:XS}{f:MG}(E:Ends)(σ:L2.St)(H:Hp)(h:upS K ca Φ (mAsg f me) E σ H):tAsg (up K ca Φ me) (upG K ca f) E σ H:=by
 obtain⟨σ3,g,μ,R,p⟩:=h
 refine⟨σ3,g,μ,R,?_⟩
 unfold mAsg at p
 cases hm:me σ3 g with
 |ok d g1 =>
  rw[hm]at p
  dsimp only at p
  intro v H' μ' e' r' q'
  cases hf:f d σ3 with
  |none=>rw[hf]at p;exact p.elim
  |some σ4 =>
   rw[hf]at p
   exact⟨σ3,g1,μ',d,σ4,R.go e' r',q',hf,λσ' R'=>p σ' H' μ' e' R'⟩
 |raise _ _=>rw[hm]at p;exact RaP.stmt R p
 |stuck=>rw[hm]at p;exact p
theorem Qlb{tg:Expr}{f:MG}(he:PE3 ca X e me)(hg:PG3 ca X tg f)(hs:swapsWithSole [tg] e pos.line X.env=pure false:=by rfl)(hw:swappedStores [tg] e X.env=pure none:=by rfl)(h1:(assignEach [tg] X.env).map (·.2)=[assign tg X.env]:=by rfl):PS3 ca X (.Assign [tg] e pos) (mAsg f me) :=
 λpn Φ=>Z9 (Qfv (X:=xat X ca pn Φ) (he pn Φ) (hg pn Φ) hs hw h1) QmV
theorem Qn1(i:Nat){x:Str}{pos':Pos}(hN:X.N.Nodup)(he:PE3 ca X e me)(hi:X.N[i]?=some x:=by rfl)(hx:Loc X.env.scope x:=by first|exact Or.inl rfl|exact Or.inr rfl)(hs:swapsWith e (some (.Name x pos')) pos.line X.env=pure false:=by rfl)(hf:X.fn x=true\/X.env.scope.names.lookup x=some .local:=by first|exact .inl rfl|exact .inr rfl):
  PS3 ca X (.Assign [.Name x pos'] e pos) (mAsg (gSet i) me) :=
 λpn Φ=>Z9 (Qmr (X:=xat X ca pn Φ) hN hi hx (he pn Φ) hs hf) λE σ H h=>by
  obtain⟨σ3,g,μ,R,p⟩:=h
  refine⟨σ3,g,μ,R,?_⟩
  unfold mAsg gSet at p
  cases hm:me σ3 g with
  |ok d g1 =>
   rw[hm]at p
   exact λv H' μ' e' r' q'=>p _ H' μ' e' ((R.go e' r').set q' i)
  |raise _ _=>rw[hm]at p;exact RaP.stmt R p
  |stuck=>rw[hm]at p;exact p
structure FldOk(K:Frag)(ca:Nat->Addr)(cs:List Nat)(f:Str):Prop where
 cl:∀c∈cs,Cls K (ca c)
 no:∀c∈cs,NoAttr K (ca c) f
theorem FRel.look{K:Frag}{μ:List Addr}{H:Hp}{f:Str}{d:D}:∀{fv:List (Str×V)}{fs:List (Str×D)},FRel K μ H fv fs->fs.lookup f=some d->∃v,fv.lookup f=some v/\Den K μ H v d
 |_,_,.nil,h=>by cases h
 | (k,v)::r,(k',d')::r',.cons ⟨e,q⟩ t,h=>by
  have e:k=k':=e
  subst e
  cases hb:f == k with
  |true =>
   simp only[List.lookup,hb]at h ⊢
   cases h
   exact⟨v,rfl,q⟩
  |false =>
   simp only[List.lookup,hb]at h ⊢
   exact FRel.look t h
theorem FRel.no{K:Frag}{μ:List Addr}{H:Hp}{f:Str}:∀{fv:List (Str×V)}{fs:List (Str×D)},FRel K μ H fv fs->fs.lookup f=Option.none->fv.lookup f=Option.none
 |_,_,.nil,_=>rfl
 | (k,v)::r,(k',d')::r',.cons ⟨e,q⟩ t,h=>by
  have e:k=k':=e
  subst e
  cases hb:f == k with
  |true=>simp only[List.lookup,hb]at h;cases h
  |false =>
   simp only[List.lookup,hb]at h ⊢
   exact FRel.no t h
theorem FRel.put{K:Frag}{μ:List Addr}{H:Hp}{f:Str}{v:V}{d:D}(q:Den K μ H v d):∀{fv:List (Str×V)}{fs:List (Str×D)},FRel K μ H fv fs->FRel K μ H (putF f v fv) (putG f d fs)
 |_,_,.nil=>.cons ⟨rfl,q⟩ .nil
 | (k,w)::r,(k',d')::r',.cons ⟨e,z⟩ t=>by
  have e:k=k':=e
  subst e
  show FRel K μ H (if k=f then (k,v)::r else (k,w)::putF f v r) (if k=f then (k,d)::r' else (k,d')::putG f d r')
  by_cases h:k=f
  ·rw[Uc h,Uc h];exact .cons ⟨rfl,q⟩ t
  ·rw[Uh h,Uh h];exact .cons ⟨rfl,z⟩ (FRel.put q t)
theorem Za{cs:List Nat}{f:Str}(he:PE3 ca X e me)(ok:FldOk X.K ca cs f)(hb:attributeBase e f X.env (eval e X.env)=eval e X.env:=by rfl):PE3 ca X (.Attribute e f pos) (QP cs f me) :=
 λpn Φ=>Zf (QmD (X:=xat X ca pn Φ) (he pn Φ) hb) λσ H Q ⟨σ3,g,μ,R,p⟩=>Zm (Jy R p) λx H1 hQ=>by
  obtain⟨d,g1,μ1,e1,R1,q1,p1⟩:=hQ
  cases q1 with
  |@ref n a hn =>
   dsimp only at p1
   cases hg:g1[n]? with
   |none=>rw[hg]at p1;exact p1.elim
   |some o =>
    rw[hg]at p1
    obtain⟨a',ha',ob⟩:=R1.g.addr hg
    rw[hn]at ha';cases ha'
    cases o with
    |ins c fs =>
     dsimp only at p1
     obtain⟨dx,fv,hH,fr⟩:=ob
     by_cases hc:c∈cs
     ·rw[Uc hc]at p1
      cases hl:fs.lookup f with
      |none=>rw[hl]at p1;exact p1.elim
      |some y =>
       rw[hl]at p1
       obtain⟨v,h1,h2⟩:=fr.look hl
       exact⟨a,ca c,dx,fv,v,rfl,hH,ok.cl c hc,ok.no c hc,h1,p1 v H1 μ1 .refl R1.g h2⟩
     ·rw[Uh hc]at p1;exact p1.elim
    |_=>exact p1.elim
  |_=>exact p1.elim
theorem Z0{o:Expr}{mo:ME}{cs:List Nat}{f:Str}{pos':Pos}(ho:PE3 ca X o mo)(he:PE3 ca X e me)(ok:FldOk X.K ca cs f)(hs:swapsWith e (some (.Attribute o f pos')) pos.line X.env=pure false:=by rfl):
  PS3 ca X (.Assign [.Attribute o f pos'] e pos) (QR cs f mo me) :=
 λpn Φ=>Z9 (QmE (X:=xat X ca pn Φ) (ho pn Φ) (he pn Φ) hs) λE σ H ⟨σ3,g,μ,R,p⟩=>⟨σ3,g,μ,R,by
  unfold QR at p
  cases hm:me σ3 g with
  |ok y g1 =>
   rw[hm]at p
   dsimp only at p
   intro vy H1 μ1 e1 r1 q1
   refine⟨σ3,g1,μ1,R.go e1 r1,?_⟩
   cases hm2:mo σ3 g1 with
   |ok d g2 =>
    rw[hm2]at p
    intro vx H2 μ2 e2 r2 q2
    cases q2 with
    |@ref n a hn =>
     dsimp only at p
     cases hg:g2[n]? with
     |none=>rw[hg]at p;exact p.elim
     |some ob =>
      rw[hg]at p
      obtain⟨a',ha',orp⟩:=r2.addr hg
      rw[hn]at ha';cases ha'
      cases ob with
      |ins c fs =>
       dsimp only at p
       obtain⟨dx,fv,hH,fr⟩:=orp
       by_cases hc:c∈cs/\fs.length<100
       ·rw[Uc hc]at p
        have fl:fv.length=fs.length:=Paired.length fr
        refine⟨a,ca c,dx,fv,rfl,hH,ok.cl c hc.1,ok.no c hc.1,by omega,?_⟩
        have ex:Ext X.K μ2 H2 μ2 (upd H2 a (.ins (ca c) dx (putF f vy fv))):=Y3 hH (by intro _ z;cases z) (by intro _ _ z;cases z)
        refine p σ _ μ2 ((e1.trans e2).trans ex) ((R.go (e1.trans e2) r2).go ex ?_)
        exact r2.set hn hH (by intro _ z;cases z) (by intro _ _ z;cases z) ⟨dx,_,Qq,FRel.put ((q1.mono e2).mono ex) (fr.mono ex)⟩
       ·rw[Uh hc]at p;exact p.elim
      |_=>exact p.elim
    |_=>exact p.elim
   |raise _ _=>rw[hm2]at p;exact(RaP.stmt R p).go e1
   |stuck=>rw[hm2]at p;exact p
  |raise _ _=>rw[hm]at p;exact RaP.stmt R p
  |stuck=>rw[hm]at p;exact p⟩
theorem QeQ{o i:Expr}{mo mi:ME}{pos':Pos}(ho:PE3 ca X o mo)(hi:PE3 ca X i mi)(he:PE3 ca X e me)(hs:swapsWithSole [.Subscript o i pos'] e pos.line X.env=pure false:=by rfl)(hw:swappedStores [.Subscript o i pos'] e X.env=pure none:=by rfl)(h1:(assignEach [.Subscript o i pos'] X.env).map (·.2)=[assign (.Subscript o i pos') X.env]:=by rfl)(ha:∀v,assign (.Subscript o i pos') X.env v=(do
   let ov <-holding [v] (eval o X.env)
   let iv <-holding [v,ov] (eval i X.env)
   standAt pos'
   holding [v,ov,iv] (setItem ov iv v)
   release [v,ov,iv] []):=by intro _;rfl):PS3 ca X (.Assign [.Subscript o i pos'] e pos) (Jt mo mi me) :=
 λpn Φ=>Z9 (Qfv (X:=xat X ca pn Φ) (he pn Φ) (Qg6 (X:=xat X ca pn Φ) (ho pn Φ) (hi pn Φ) Qi4 ha) hs hw h1) λE σ H ⟨σ3,g,μ,R,p⟩=>⟨σ3,g,μ,R,by
  unfold Jt at p
  cases hm:me σ3 g with
  |ok y g1 =>
   rw[hm]at p
   dsimp only at p
   intro vy H1 μ1 e1 r1 q1
   refine⟨σ3,g1,μ1,R.go e1 r1,?_⟩
   cases hm2:mo σ3 g1 with
   |ok d g2 =>
    rw[hm2]at p
    intro vx H2 μ2 e2 r2 q2
    cases q2 with
    |@ref n a hn =>
     dsimp only at p
     refine⟨σ3,g2,μ2,R.go (e1.trans e2) r2,?_⟩
     cases hm3:mi σ3 g2 with
     |ok di g3 =>
      rw[hm3]at p
      intro vi H3 μ3 e3 r3 q3
      cases q3 with
      |int k =>
       dsimp only at p
       cases hg:g3[n]? with
       |none=>rw[hg]at p;exact p.elim
       |some ob =>
        rw[hg]at p
        obtain⟨a',ha',orp⟩:=r3.addr hg
        rw[e3.at hn]at ha';cases ha'
        cases ob with
        |lst ds =>
         dsimp only at p
         obtain⟨vs,hH,q⟩:=orp
         cases hj:ixD ds.length k with
         |none=>rw[hj]at p;exact p.elim
         |some j =>
          rw[hj]at p
          have ex:Ext X.K μ3 H3 μ3 (upd H3 a (.lst (vs.set j vy))):=Y3 hH (by intro _ z;cases z) (by intro _ _ z;cases z)
          refine⟨a,vs,k,j,rfl,rfl,hH,by rw[q.length];exact hj,?_⟩
          refine p σ _ μ3 (((e1.trans e2).trans e3).trans ex) ((R.go ((e1.trans e2).trans e3) r3).go ex ?_)
          exact r3.set (e3.at hn) hH (by intro _ z;cases z) (by intro _ _ z;cases z) ⟨_,Qq,Dens.set (((q1.mono e2).mono e3).mono ex) j (q.mono ex)⟩
        |_=>exact p.elim
      |_=>exact p.elim
     |raise _ _=>rw[hm3]at p;exact(RaP.stmt R p).go (e1.trans e2)
     |stuck=>rw[hm3]at p;exact p
    |_=>exact p.elim
   |raise _ _=>rw[hm2]at p;exact(RaP.stmt R p).go e1
   |stuck=>rw[hm2]at p;exact p
  |raise _ _=>rw[hm]at p;exact RaP.stmt R p
  |stuck=>rw[hm]at p;exact p⟩
noncomputable def Sim(K:Frag)(ca:Nat->Addr)(μ0:List Addr)(H0:Hp)(src:Src)(J:It):Prop :=
 ∀(i:Nat)(H:Hp)(μ:List Addr)(g:G),Ext K μ0 H0 μ H->GRep K ca μ H g->match src.at' g i with
  |some (some d)=>J.go i H/\∀x H',J.yld i H x H'->Ext K μ H μ H'/\GRep K ca μ H' g/\Den K μ H' x d
  |some none=>J.stop i H
  |none=>True
noncomputable def upI(K:Frag)(ca:Nat->Addr)(Φ:XS)(m:MI):TI:=λσ H R=>∃σ3 g μ,Rep K ca μ σ3 g σ H/\match m σ3 g with
 |.ok src g'=>∀J H' μ',Ext K μ H μ' H'->GRep K ca μ' H' g'->Sim K ca μ' H' src J->R J H'
 |.raise x g'=>RaP K ca Φ σ H μ x g'
 |.stuck=>False
def PI3(ca:Nat->Addr)(X:Cx)(tg iter:Expr)(m:MI):Prop:=∀pn Φ,PI (xat X ca pn Φ) tg iter (upI X.K ca Φ m)
theorem Qbx{tg iter:Expr}{body:List Stmt}{mi:MI}{f:MG}(hc:X.calm=true)(hi:PI3 ca X tg iter mi)(hg:PG3 ca X tg f)(hb:PSs3 ca X body m)(hs:∀x,foldedSetIterable iter X.env x=pure x:=by intro _;rfl)(hk:X.stack=X.env::X.outer:=by rfl)(hf:X.env.frame=some X.env.locals:=by rfl):
  PS3 ca X (.For tg iter body [] pos) (mFor mi f m) :=
 λpn Φ=>Z9 (Qmu (X:=xat X ca pn Φ) (Qkp hk hf pn Φ) hc (hi pn Φ) (hg pn Φ) (hb pn Φ) hs) λE σ H ⟨σ3,g,μ,R,p⟩=>⟨σ3,g,μ,R,by
  unfold mFor at p
  cases hm:mi σ3 g with
  |ok src g' =>
   rw[hm]at p
   dsimp only at p ⊢
   intro J H' μ' e' r' sim
   refine⟨λi n σ1 H1=>∃σ4 g1 μ1,Ext X.K μ' H' μ1 H1/\Rep X.K ca μ1 σ4 g1 σ1 H1/\PostS X.K ca Φ E H1 μ1 (forL src f m n i σ4 g1),⟨src.top+1,σ3,g',μ',.refl,R.go e' r',p.go e'⟩,?_⟩
   rintro i n σ1 H1 ⟨σ4,g1,μ1,e1,R1,p1⟩
   have s1:=sim i H1 μ1 g1 e1 R1.g
   cases n with
   |zero=>exact p1.elim
   |succ n =>
    unfold forL at p1
    cases ha:src.at' g1 i with
    |none=>rw[ha]at p1;exact p1.elim
    |some od =>
     rw[ha]at p1 s1
     cases od with
     |none=>exact .inl ⟨s1,p1 σ1 H1 μ1 .refl R1⟩
     |some d =>
      dsimp only at p1 s1
      obtain⟨go,yl⟩:=s1
      refine .inr ⟨go,λσ2 H2=>∃σ5 g2 μ2,Ext X.K μ' H' μ2 H2/\Rep X.K ca μ2 σ5 g2 σ2 H2/\PostS X.K ca Φ E H2 μ2 (forL src f m n (i+1) σ5 g2),λσ2 H2 z=>⟨n,Tl n,z⟩,λx H2 y=>?_⟩
      obtain⟨e2,r2,q2⟩:=yl x H2 y
      cases hf:f d σ4 with
      |none=>rw[hf]at p1;exact p1.elim
      |some σ5 =>
       rw[hf]at p1
       dsimp only at p1
       refine⟨σ4,g1,μ1,d,σ5,R1.go e2 r2,q2,hf,λσ6 R6=>⟨σ5,g1,μ1,R6,?_⟩⟩
       cases hb:m σ5 g1 with
       |nx σ7 g7 =>
        rw[hb]at p1
        exact λσ' H3 μ3 e3 R3=>⟨σ7,g7,μ3,(e1.trans e2).trans e3,R3,PostS.go (e2.trans e3) p1⟩
       |ct σ7 g7 =>
        rw[hb]at p1
        exact λσ' H3 μ3 e3 R3=>⟨σ7,g7,μ3,(e1.trans e2).trans e3,R3,PostS.go (e2.trans e3) p1⟩
       |bk σ7 g7 =>
        rw[hb]at p1
        exact λσ' H3 μ3 e3 R3=>p1 σ' H3 μ3 (e2.trans e3) R3
       |rt d7 g7 =>
        rw[hb]at p1
        exact λv H3 μ3 e3 r3 q3=>p1 v H3 μ3 (e2.trans e3) r3 q3
       |raise _ _ _ =>
        rw[hb]at p1
        exact λσ' H3 μ3 e3 R3=>p1 σ' H3 μ3 (e2.trans e3) R3
       |stuck=>rw[hb]at p1;exact p1
  |raise _ _=>rw[hm]at p;exact RaP.stmt R p
  |stuck=>rw[hm]at p;exact p⟩
theorem QeR{body:List Stmt}(hc:PT3 ca X c tc)(hb:PSs3 ca X body m)(hk:X.stack=X.env::X.outer:=by rfl)(hf:X.env.frame=some X.env.locals:=by rfl):PS3 ca X (.While c body [] pos) (QbW tc m) :=
 λpn Φ=>Z9 (QiZ (X:=xat X ca pn Φ) (Qkp hk hf pn Φ) (hc pn Φ) (hb pn Φ)) λE σ H hQ=>by
  obtain⟨σ3,g,μ,R,p⟩:=hQ
  unfold QbW at p
  by_cases hh:∃f,QX tc m f σ3 g≠.stuck
  ·rw[dif_pos hh]at p
   generalize hh.choose=k at p
   refine⟨λn σ1 H1=>∃σ4 g1 μ1,Ext X.K μ H μ1 H1/\Rep X.K ca μ1 σ4 g1 σ1 H1/\PostS X.K ca Φ E H1 μ1 (QX tc m n σ4 g1),⟨k,σ3,g,μ,.refl,R,p⟩,?_⟩
   rintro n σ1 H1 ⟨σ4,g1,μ1,e1,R1,p1⟩
   cases n with
   |zero=>exact p1.elim
   |succ n =>
    unfold QX at p1
    refine⟨σ4,g1,μ1,R1,?_⟩
    cases ht:tc σ4 g1 with
    |ok t g2 =>
     rw[ht]at p1
     cases t with
     |true =>
      dsimp only at p1
      intro H2 μ2 e2 r2
      rw[Uc rfl]
      refine⟨λσ2 H3=>∃σ5 g3 μ3,Ext X.K μ H μ3 H3/\Rep X.K ca μ3 σ5 g3 σ2 H3/\PostS X.K ca Φ E H3 μ3 (QX tc m n σ5 g3),λσ2 H3 z=>⟨n,Tl n,z⟩,σ4,g2,μ2,R1.go e2 r2,?_⟩
      cases hb:m σ4 g2 with
      |nx σ7 g7 =>
       rw[hb]at p1
       exact λσ' H3 μ3 e3 R3=>⟨σ7,g7,μ3,(e1.trans e2).trans e3,R3,PostS.go (e2.trans e3) p1⟩
      |ct σ7 g7 =>
       rw[hb]at p1
       exact λσ' H3 μ3 e3 R3=>⟨σ7,g7,μ3,(e1.trans e2).trans e3,R3,PostS.go (e2.trans e3) p1⟩
      |bk σ7 g7 =>
       rw[hb]at p1
       exact λσ' H3 μ3 e3 R3=>p1 σ' H3 μ3 (e2.trans e3) R3
      |rt d7 g7 =>
       rw[hb]at p1
       exact λv H3 μ3 e3 r3 q3=>p1 v H3 μ3 (e2.trans e3) r3 q3
      |raise _ _ _ =>
       rw[hb]at p1
       exact λσ' H3 μ3 e3 R3=>p1 σ' H3 μ3 (e2.trans e3) R3
      |stuck=>rw[hb]at p1;exact p1
     |false =>
      intro H2 μ2 e2 r2
      rw[Uh Ud]
      exact p1 σ1 H2 μ2 e2 (R1.go e2 r2)
    |raise _ _=>rw[ht]at p1;exact RaP.stmt R1 p1
    |stuck=>rw[ht]at p1;exact p1
  ·rw[dif_neg hh]at p;exact p.elim
end
noncomputable def spM(K:Frag)(ca:Nat->Addr)(n:Nat)(F:MF):Sp:=λvs H Q E=>vs.length=n/\∃ds g μ,GRep K ca μ H g/\Dens K μ H vs ds/\match F ds g with
 |.ok d g'=>∀v H' μ',Ext K μ H μ' H'->GRep K ca μ' H' g'->Den K μ' H' v d->Q v H'
 |.raise x g'=>∀H' μ',Ext K μ H μ' H'->GRep K ca μ' H' g'->E (.int x.1 0) x.2 H'
 |.stuck=>False
theorem QhA{K:Frag}{ca:Nat->Addr}{μ:List Addr}{H:Hp}{g:G}{vs:List V}{ds:List D}(N:List Str)(r:GRep K ca μ H g)(q:Dens K μ H vs ds):Rep K ca μ (ds.map some++List.replicate (N.length-vs.length) none) g (L2.start N vs) H:=by
 unfold L2.start
 refine⟨r,?_,λi d h=>?_⟩
 ·rw[UB,UB,Um,Um,q.length,U0,U0]
 ·by_cases hi:i<ds.length
  ·rw[Uy (by simpa using hi),UK]at h
   cases hd:ds[i]? with
   |none=>rw[hd]at h;cases h
   |some d' =>
    rw[hd]at h;cases h
    obtain⟨v,h1,h2⟩:=q.get hd
    refine⟨v,?_,h2⟩
    rw[Uy (by simpa[q.length]using hi),UK,h1];rfl
  ·rw[UJ (by simpa using hi),TR]at h
   split at h <;> cases h
structure FnH(P:Program)(w:World)(K:Frag)(mg:Str->Option Value)(base:Heap)(ca:Nat->Addr)(x:Str)(k n:Nat)(F:MF):Prop where
 ex:∃(f:Addr)(fd:FuncData)(ps:List Str),FnOk P w K mg base (CXW P w ca) k f fd ps (spM K ca n F)/\mg x=some (.ref f)/\keepIn K (.ref f)=true/\Binds K fd ps []
 st:∀ds g,ds.length≠n->F ds g=.stuck
structure MtH(P:Program)(w:World)(K:Frag)(mg:Str->Option Value)(base:Heap)(ca:Nat->Addr)(c:Nat)(x:Str)(k n:Nat)(F:MF):Prop where
 ex:∃(f:Addr)(fd:FuncData)(ps:List Str),FnOk P w K mg base (CXW P w ca) k f fd ps (spM K ca n F)/\Meth K (ca c) x f/\Cls K (ca c)/\Binds K fd ps []
 st:∀ds g,ds.length≠n->F ds g=.stuck
structure MkH(P:Program)(w:World)(K:Frag)(mg:Str->Option Value)(base:Heap)(ca:Nat->Addr)(c:Nat)(x:Str)(k n:Nat)(F:MF):Prop where
 ex:∃(f:Addr)(fd:FuncData)(ps:List Str),FnOk P w K mg base (CXW P w ca) k f fd ps (spM K ca n F)/\Mk K (ca c) f/\mg x=some (.ref (ca c))/\Binds K fd ps []
 st:∀ds g,ds.length≠n->F ds g=.stuck
theorem Yk(k n:Nat)(m:MS):∀ds g,ds.length≠k->mDef k n m ds g=.stuck:=λds g h=>by unfold mDef;rw[Uh h]
theorem FnH.mono{P:Program}{w:World}{K:Frag}{mg:Str->Option Value}{base:Heap}{ca:Nat->Addr}{x:Str}{j k n:Nat}{F:MF}(h:FnH P w K mg base ca x j n F)(hj:j<=k):FnH P w K mg base ca x k n F:=by
 obtain⟨f,fd,ps,a,b⟩:=h.ex
 exact⟨⟨f,fd,ps,a.mono hj,b⟩,h.st⟩
section
variable{P:Program}{w:World}{K:Frag}{mg:Str->Option Value}{base:Heap}{ca:Nat->Addr}
theorem QhB{N:List Str}{qual:Str}{scope:Scope}{f:Addr}{cd:Value}{A:Around}{outer:List Env}{s:Shared}{H:Hp}{E:XK}{body:List Stmt}{t:TS}(h:PSs (xat (cxOf (CXW P w ca) P w K mg base N qual scope f cd A outer s H E) ca [] (λx _ H'=>E (.int x.1 0) x.2 H')) body t):PSs (cxOf (CXW P w ca) P w K mg base N qual scope f cd A outer s H E) body t:=λpins s1 σ H1 D I q =>
 Tc (h pins s1 σ H1 D (Inv.wish I _) q) (λ_ _ z=>SP.unwish (X:=cxOf (CXW P w ca) P w K mg base N qual scope f cd A outer s H E) z) λ_ _ z=>Qi6 z
theorem Qa4{x qual:Str}{st:Stmt}{f:Addr}{fd:FuncData}{N ps:List Str}{k n j:Nat}{m:MS}(F:Fun K x qual st f fd)(S:FnScope N ps (Qd st))(hj:ps.length=j)(hn:N.length-ps.length=n)(h:∀(cdv:Value) (A:Around) (outer:List Env) (s:Shared) (H:Hp) (E:XK),Room k (A.deeper (envOfC qual (Qd st) s.heap.objs.size f cdv)) ->
   PSs3 ca (cxOf (CXW P w ca) P w K mg base N qual (Qd st) f cdv A outer s H E) (Q6 st) m):FnOk P w K mg base (CXW P w ca) (k+1) f fd ps (spM K ca j (mDef j n m)):=by
 subst hj
 obtain⟨oc,od,kV,doc,pm,an,cdv,ct,osl,rfl,lk,hcd⟩:=F.ex
 refine QmH lk hcd S (λvs H Q E q=>q.1) λA outer s H vs Q E hr hsp=>?_
 obtain⟨hl,ds,g,μ,r,q,p⟩:=hsp
 refine⟨_,QhB (h cdv A outer s H E hr [] _),ds.map some++List.replicate n none,g,μ,?_,?_⟩
 ·have z:=QhA N r q
  rw[hl,hn]at z
  exact z
 ·unfold mDef at p
  rw[Uc (by rw[<-q.length,hl])]at p
  cases hm:m (ds.map some++List.replicate n none) g with
  |nx σ' g'=>rw[hm]at p;exact λσ'' H' μ' e' R'=>p .non H' μ' e' R'.g .non
  |rt d g'=>rw[hm]at p;exact p
  |bk _ _=>rw[hm]at p;exact p.elim
  |ct _ _=>rw[hm]at p;exact p.elim
  |raise _ _ _=>rw[hm]at p;exact λσ'' H' μ' e' R'=>p H' μ' e' R'.g
  |stuck=>rw[hm]at p;exact p.elim
noncomputable def EK(Φ:XS)(σ:L2.St):XK:=λc l H'=>∀x:Xc,c=.int x.1 0->l=x.2->Φ x σ H'
theorem QfI{F:MF}{n:Nat}{Φ:XS}{σ:L2.St}{Q:VK}{H:Hp}{μ:List Addr}{vs:List V}{ds:List D}{g:G}(st:∀ds g,ds.length≠n->F ds g=.stuck)(r:GRep K ca μ H g)(q:Dens K μ H vs ds)(p:Post K ca Φ σ Q H μ (F ds g)):spM K ca n F vs H Q (EK Φ σ):=by
 have hl:vs.length=n:=by
  rw[q.length]
  apply Decidable.byContradiction
  intro h
  rw[st ds g h]at p
  exact p
 refine⟨hl,ds,g,μ,r,q,?_⟩
 cases hF:F ds g with
 |ok d g'=>rw[hF]at p;exact p
 |raise x g' =>
  rw[hF]at p
  intro H' μ' e r' y e1 e2
  have:x=y:=by
   obtain⟨a,b⟩:=x
   obtain⟨c,d⟩:=y
   injection e1 with e1
   have e1:(a:Int)=(c:Int):=e1
   have e3:a=c:=by omega
   rw[e3,show b=d from e2]
  rw[<-this]
  exact p H' μ' e r'
 |stuck=>rw[hF]at p;exact p
end
section
variable{X:Cx}{ca:Nat->Addr}{e o:Expr}{es:List Expr}{me mo:ME}{mr:MA}{p pos apos:Pos}{k n:Nat}{F:MF}{pn:List (Addr×Obj)}{Φ:XS}
theorem QhC{f:Addr}{fd:FuncData}{ps:List Str}{pins:List (Addr×Obj)}{σ:L2.St}{H:Hp}{s:Shared}{Q:VK}{us:List Value}{vs:List V}(G:FnOk X.prog X.w X.K X.mg X.base (CXW X.prog X.w ca) k f fd ps (spM X.K ca n F))(hr:Room k X.A)(hb:Binds X.K fd ps [])(I:Inv (xat X ca pn Φ) pins σ H s)(r:Vals vs us)(h:spM X.K ca n F vs H Q (EK Φ σ)):wpAny (model X.prog X.w) X.A (call (.ref f) us) (EP (xat X ca pn Φ) pins σ Q) (xat X ca pn Φ).xe s:=by
 have hl:(us++[]).length=ps.length:=by rw[U6,<-r.length];exact G.len _ _ _ _ h
 have b:=hb s us I.kIn hl
 rw[U6]at b
 refine wpAny_call (Wn (G.run X.A X.stack s H ⟨us,[]⟩ us vs Q (EK Φ σ) hr I.env0 b r h) λres s' hq=>?_)
 cases res with
 |error z=>exact Qhy I hq
 |ok fl =>
  cases fl with
  |ret u=>exact I.after hq
  |_=>exact False.elim hq
theorem QE{x:Str}(h:FnH X.prog X.w X.K X.mg X.base ca x k n F)(hr:Room k X.A)(ha:PA3 ca X (e::es) mr)(hg:Gl X x:=by rfl)(hdb:(x == ("__debug__" : Str))=false:=by decide)(he:starEach (e::es) X.env=(false,eval e X.env)::starEach es X.env:=by rfl)(hpl:(backTo pos (starEach es X.env)).any (·.1)=false:=by rfl):PE3 ca X (.Call (.Name x p) (e::es) [] pos) (Qr F mr):=by
 obtain⟨f,fd,ps,F1,m1,k1,b1⟩:=h.ex
 intro pn Φ pins s σ H Q I ⟨σ3,g,μ,R,q⟩
 refine T8 (QeH I hg m1 ?_ hdb)
 have z:upA X.K ca Φ mr σ H λvs H1=>spM X.K ca n F vs H1 Q (EK Φ σ):=J6 (QdZ R q) λxs H1 ⟨ds,g1,μ1,e1,R1,q1,p1⟩=>QfI h.st R1.g q1 p1
 refine RO (h₀:=X.base) I.ok.mod.kin k1 (thn (ha pn Φ pos pins s σ H _ I z) λus s1 ⟨vs,H1,I1,r,q1⟩=>⟨I1.kIn,?_⟩) he hpl
 exact QhC F1 hr b1 I1 r q1
theorem QhD{K:Frag}{c:Nat}{m:Str}{σ:L2.St}{H:Hp}{Q:VK}{α:Type}{kk:Nat->G->Res α}{R:Res α->Hp->List Addr->Prop}{d:D}{g:G}{μ:List Addr}{v:V}(r:GRep K ca μ H g)(hst:¬R .stuck H μ)(p:R (match d with
   |.ref i=>(match g[i]? with
    |some (.ins c' fs)=>if c'=c/\fs.lookup m=none then kk i g else .stuck
    |_=>.stuck)
   |_=>.stuck) H μ)(q:Den K μ H v d):∃a dx fv i,d=.ref i/\v=.ref a/\μ[i]?=some a/\H a=some (.ins (ca c) dx fv)/\fv.lookup m=none/\R (kk i g) H μ:=by
 cases q with
 |@ref i a hn =>
  dsimp only at p
  cases hg:g[i]? with
  |none=>rw[hg]at p;exact(hst p).elim
  |some ob =>
   rw[hg]at p
   obtain⟨a',ha',orp⟩:=r.addr hg
   rw[hn]at ha';cases ha'
   cases ob with
   |ins c' fs =>
    dsimp only at p
    obtain⟨dx,fv,hH,fr⟩:=orp
    by_cases hc:c'=c/\fs.lookup m=none
    ·rw[Uc hc]at p
     obtain⟨rfl,hl⟩:=hc
     exact⟨a,dx,fv,i,rfl,rfl,hn,hH,fr.no hl,p⟩
    ·rw[Uh hc]at p;exact(hst p).elim
   |_=>exact(hst p).elim
 |_=>exact(hst p).elim
theorem Qkq{c:Nat}{m:Str}{pl:Sem Bool}(h:MtH X.prog X.w X.K X.mg X.base ca c m k n F)(hr:Room k X.A)(ho:PE3 ca X o mo)(ha:PA3 ca X (e::es) mr)(hst:starEach (e::es) X.env=(false,eval e X.env)::starEach es X.env:=by rfl)(hpl:(backTo pos (starEach es X.env)).any (·.1)=false:=by rfl)(ht:eval (.Call (.Attribute o m apos) (e::es) [] pos) X.env=(do
   let ov <-eval o X.env
   standAt apos.atName
   let (f,first) <-holding [ov] (getMethod ov m pl)
   callWith pos f first (backTo pos (starEach (e::es) X.env)) (backToKw pos (keywordEach [] X.env))):=by rfl):PE3 ca X (.Call (.Attribute o m apos) (e::es) [] pos) (Zr c m F mo mr):=by
 obtain⟨f,fd,ps,F1,m1,k1,b1⟩:=h.ex
 intro pn Φ pins s σ H Q I ⟨σ3,g,μ,R,q⟩
 refine Wy (pl:=pl) (thn (ho pn Φ pins s σ H _ I (Jy R q)) λu s1 ⟨x,H1,I1,rx,d,g1,μ1,e1,R1,q1,p1⟩=>?_) ht
 obtain⟨a,dx,fv,i,rfl,rfl,hn,hH,hl,p2⟩:=QhD (Q:=Q) (σ:=σ) (R:=λr H μ=>Post X.K ca Φ σ Q H μ r) (kk:=λi g=>(mr σ3 g).bind λxs g2=>F (.ref i::xs) g2) R1.g (λz=>z) p1 q1
 obtain rfl:u=Value.ref a:=rx
 refine QcN I1 hH k1 m1 hl ?_
 have z:upA X.K ca Φ mr σ H1 λvs H2=>spM X.K ca n F (.ref a::vs) H2 Q (EK Φ σ):=J6 (QdZ R1 p2) λxs H2 ⟨ds,g2,μ2,e2,R2,q2,p3⟩=>QfI h.st R2.g (.cons (.ref (e2.at hn)) q2) p3
 refine RO (first:=[.ref a]) (h₀:=X.base) I.ok.mod.kin m1.kp (thn (ha pn Φ pos pins s1 σ H1 _ I1 z) λus s2 ⟨vs,H2,I2,r,q2⟩=>⟨I2.kIn,?_⟩) hst hpl
 exact QhC (us:=.ref a::us) (vs:=.ref a::vs) F1 hr b1 I2 (.cons rfl r) q2
theorem Ya{c:Nat}{m:Str}{pl:Sem Bool}(h:MtH X.prog X.w X.K X.mg X.base ca c m k n F)(hr:Room k X.A)(ho:PE3 ca X o mo)(ht:eval (.Call (.Attribute o m apos) [] [] pos) X.env=(do
   let ov <-eval o X.env
   standAt apos.atName
   let (f,first) <-holding [ov] (getMethod ov m pl)
   callWith pos f first (backTo pos (starEach [] X.env)) (backToKw pos (keywordEach [] X.env))):=by rfl):PE3 ca X (.Call (.Attribute o m apos) [] [] pos) (Zr c m F mo mNil):=by
 obtain⟨f,fd,ps,F1,m1,k1,b1⟩:=h.ex
 intro pn Φ pins s σ H Q I ⟨σ3,g,μ,R,q⟩
 refine Wy (pl:=pl) (thn (ho pn Φ pins s σ H _ I (Jy R q)) λu s1 ⟨x,H1,I1,rx,d,g1,μ1,e1,R1,q1,p1⟩=>?_) ht
 obtain⟨a,dx,fv,i,rfl,rfl,hn,hH,hl,p2⟩:=QhD (Q:=Q) (σ:=σ) (R:=λr H μ=>Post X.K ca Φ σ Q H μ r) (kk:=λi g=>(mNil σ3 g).bind λxs g2=>F (.ref i::xs) g2) R1.g (λz=>z) p1 q1
 obtain rfl:u=Value.ref a:=rx
 refine QcN I1 hH k1 m1 hl ?_
 exact callWith_K0 (first:=[.ref a]) I1.kIn m1.kp (QhC (us:=[.ref a]) (vs:=[.ref a]) F1 hr b1 I1 (.cons rfl .nil) (QfI h.st R1.g (.cons (.ref hn) .nil) p2))
theorem QhE{c:Nat}{x:Str}(h:MkH X.prog X.w X.K X.mg X.base ca c x k n F)(hr:Room (k+1) X.A)(ha:PA3 ca X (e::es) mr)(hg:Gl X x:=by rfl)(hdb:(x == ("__debug__" : Str))=false:=by decide)(he:starEach (e::es) X.env=(false,eval e X.env)::starEach es X.env:=by rfl)(hpl:(backTo pos (starEach es X.env)).any (·.1)=false:=by rfl):PE3 ca X (.Call (.Name x p) (e::es) [] pos) (Qc5 c F mr):=by
 obtain⟨f,fd,ps,F1,m1,k1,b1⟩:=h.ex
 intro pn Φ pins s σ H Q I ⟨σ3,g,μ,R,q⟩
 refine T8 (QeH I hg k1 ?_ hdb)
 have z:upA X.K ca Φ mr σ H λvs H1=>∀y dy,H1 y=none->H1 dy=none->dy≠y->spM X.K ca n F (.ref y::vs) (upd (upd H1 dy (.own y)) y (.ins (ca c) dy [])) (λv H2=>v=.non/\Q (.ref y) H2) (EK Φ σ) :=
  J6 (QdZ R q) λxs H1 ⟨ds,g1,μ1,e1,R1,q1,p1⟩ y dy hy hdy ne=>by
   have hy2:(upd H1 dy (.own y)) y=none:=by rw[Qs (Ne.symm ne)];exact hy
   have ex1:Ext X.K μ1 H1 μ1 (upd H1 dy (.own y)):=Q8 hdy
   have g2:=R1.g.new (o:=.own y) hdy
   have ex2:Ext X.K μ1 (upd H1 dy (.own y)) (μ1++[y]) (upd (upd H1 dy (.own y)) y (.ins (ca c) dy [])):=QS hy2
   have g3:GRep X.K ca (μ1++[y]) (upd (upd H1 dy (.own y)) y (.ins (ca c) dy [])) (g1++[.ins c []]):=g2.push hy2 ⟨dy,[],Qq,.nil⟩
   have ey:(μ1++[y])[g1.length]?=some y:=by rw[<-R1.g.len];simp
   refine QfI (Φ:=Φ) (σ:=σ) h.st g3 (.cons (.ref ey) ((q1.mono ex1).mono ex2)) ?_
   cases hF:F (D.ref g1.length::ds) (g1++[.ins c []]) with
   |stuck=>rw[hF]at p1;exact p1.elim
   |raise _ _=>rw[hF]at p1;exact RaP.go (ex1.trans ex2) p1
   |ok d g4 =>
    rw[hF,Res.bind_ok]at p1
    intro v H' μ' e' r' q'
    cases q' with
    |non=>exact⟨rfl,p1 _ H' μ' ((ex1.trans ex2).trans e') r' (.ref (e'.at ey))⟩
    |_=>exact p1.elim
 refine RO (h₀:=X.base) I.ok.mod.kin m1.kp (thn (ha pn Φ pos pins s σ H _ I z) λus s1 ⟨vs,H1,I1,r,q1⟩=>⟨I1.kIn,?_⟩) he hpl
 have hq:=q1 (s1.heap.objs.size+1) s1.heap.objs.size (I1.hok.fresh (BA _)) (I1.hok.fresh (Ug _)) (UE (Tl _))
 have I2:=Inv.made (C:=ca c) I1
 have r2:Vals (V.ref (s1.heap.objs.size+1)::vs) (Value.ref (s1.heap.objs.size+1)::us):=.cons rfl r
 have hl:(Value.ref (s1.heap.objs.size+1)::us++[]).length=ps.length:=by
  have w:=r2.length
  rw[F1.len _ _ _ _ hq]at w
  rw[U6]
  exact w.symm
 have b2:=b1 _ (Value.ref (s1.heap.objs.size+1)::us) I2.kIn hl
 rw[U6]at b2
 refine wpAny_call (Qi2 (f:=f) I1.kIn m1.makes m1.init (Td.mp m1.fn) (Wn (F1.run _ X.stack _ _ ⟨Value.ref (s1.heap.objs.size+1)::us,[]⟩ (Value.ref (s1.heap.objs.size+1)::us) _ _ (EK Φ σ) (hr.make (ca c) us [])
  (I2.env0.make (ca c) us []) b2 r2 hq) λres s' hq'=>?_))
 cases res with
 |error z=>exact Qhy I2 hq'
 |ok fl =>
  cases fl with
  |ret u =>
   obtain⟨v,H',I3,rv,ev,q3⟩:=I2.after hq'
   subst ev
   exact⟨rv,⟨V.ref (s1.heap.objs.size+1),H',I3,rfl,q3⟩⟩
  |_=>exact False.elim hq'
end
section
variable{X:Cx}{ca:Nat->Addr}{tg e:Expr}{me:ME}{mr:MA}{p pos:Pos}
theorem JB{X:Cx}{tg iter:Expr}{t t':TI}(h:PI X tg iter t)(i:∀σ H R,t' σ H R->t σ H R):PI X tg iter t':=λpins s σ H R I q=>h pins s σ H R I (i σ H R q)
theorem Qd4(K:Frag)(μ:List Addr)(H:Hp)(lo:Int)(n:Nat):Sim K ca μ H (QI lo n) (Itr lo n):=by
 intro i H1 μ1 g1 e r
 unfold QI
 dsimp only
 by_cases h:i<n
 ·rw[Uc h]
  exact⟨h,λx H' y=>by obtain⟨rfl,rfl⟩:=y;exact⟨.refl,r,.int _⟩⟩
 ·rw[Uh h]
  exact TU h
theorem Qlc{K:Frag}{μ:List Addr}{H:Hp}{a:Addr}{vs:List V}{ds:List D}(h:SqT K H a vs)(q:Dens K μ H vs ds):Sim K ca μ H ⟨λ_ i=>some ds[i]?,ds.length⟩ (Itt K a):=by
 intro i H1 μ1 g1 e r
 dsimp only
 cases hd:ds[i]? with
 |none =>
  refine⟨vs,e.tup _ _ h,?_⟩
  rw[q.length]
  exact UP.mp hd
 |some d =>
  obtain⟨v,h1,h2⟩:=q.get hd
  refine⟨⟨vs,v,e.tup _ _ h,h1⟩,λx H' y=>?_⟩
  obtain⟨rfl,y⟩:=y
  have:=y vs (e.tup _ _ h)
  rw[h1]at this;cases this
  exact⟨.refl,r,h2.mono e⟩
theorem Qld{K:Frag}{μ:List Addr}{H:Hp}{a:Addr}{n t:Nat}(hn:μ[n]?=some a):Sim K ca μ H ⟨λg i=>(match g[n]? with|some (.lst es)=>some es[i]? | _=>none),t⟩ (Itl K a):=by
 intro i H1 μ1 g1 e r
 dsimp only
 cases hg:g1[n]? with
 |none=>trivial
 |some o =>
  cases o with
  |lst ds =>
   dsimp only
   obtain⟨a',ha',vs,hH,q⟩:=r.addr hg
   rw[e.at hn]at ha';cases ha'
   cases hd:ds[i]? with
   |none =>
    refine⟨vs,.of hH,?_⟩
    rw[q.length]
    exact UP.mp hd
   |some d =>
    obtain⟨v,h1,h2⟩:=q.get hd
    refine⟨⟨vs,v,.of hH,h1⟩,λx H' y=>?_⟩
    obtain⟨rfl,y⟩:=y
    have:=y vs (.of hH)
    rw[h1]at this;cases this
    exact⟨.refl,r,h2⟩
  |_=>trivial
theorem QmW{K:Frag}{μ:List Addr}{H:Hp}{a:Addr}{vs:List V}{ds:List D}(h:SqF K H a vs)(q:Dens K μ H vs ds):Sim K ca μ H ⟨λ_ i=>some ds[i]?,ds.length⟩ (Itl K a):=by
 intro i H1 μ1 g1 e r
 dsimp only
 have sq:SqL K H1 a vs:=(e.fl _ _ h).sq
 cases hd:ds[i]? with
 |none =>
  refine⟨vs,sq,?_⟩
  rw[q.length]
  exact UP.mp hd
 |some d =>
  obtain⟨v,h1,h2⟩:=q.get hd
  refine⟨⟨vs,v,sq,h1⟩,λx H' y=>?_⟩
  obtain⟨rfl,y⟩:=y
  have:=y vs sq
  rw[h1]at this;cases this
  exact⟨.refl,r,h2.mono e⟩
theorem QmX{l:Expr}{tl:TE}(hl:PE X l tl):PI X tg l (λσ H R=>tl σ H λx H1=>(∃a,x=.ref a/\(∃xs,SqL X.K H1 a xs)/\R (Itl X.K a) H1)\/∃a,x=.ref a/\(∃xs,SqT X.K H1 a xs)/\R (Itt X.K a) H1):=by
 intro pins s σ H R I h
 refine thn (hl pins s σ H _ I h) λv s1 ⟨x,H1,I1,r1,q1⟩=>?_
 rcases q1 with⟨a,e,⟨xs,hq⟩,q⟩|⟨a,e,⟨xs,hq⟩,q⟩
 ·subst e
  cases r1
  obtain⟨its,rv,p,hz⟩:=I1.list hq
  refine RU p.isList ?_
  refine⟨s1.heap.objs.size,[s1.heap.objs.size],_,_,H1,rfl,I1.kept (t':=s1.toks) λb o e=>Ub _ e,Qg7 a _,⟨_,Ul _ rfl,rfl,rfl⟩,λb hb=>?_,q⟩
  have e:b=s1.heap.objs.size:=by simpa using hb
  subst e
  exact I1.fpOk (Ug _) (I1.hok.fresh (Ug _))
 ·subst e
  cases r1
  obtain⟨its,rv,p,hz⟩:=I1.tuple hq
  refine wpAny_pyIter_tuple (show s1.heap.IsTuple a its.toArray from p) ?_
  refine⟨s1.heap.objs.size,[s1.heap.objs.size],_,_,H1,rfl,I1.kept (t':=s1.toks) λb o e=>Ub _ e,Qgl a _,⟨_,Ul _ rfl,rfl,rfl⟩,λb hb=>?_,q⟩
  have e:b=s1.heap.objs.size:=by simpa using hb
  subst e
  exact I1.fpOk (Ug _) (I1.hok.fresh (Ug _))
theorem YD(he:PE3 ca X e me):PI3 ca X tg e (QQ me) :=
 λpn Φ=>JB (QmX (X:=xat X ca pn Φ) (he pn Φ)) λσ H R hQ=>by
  obtain⟨σ3,g,μ,Rp,p⟩:=hQ
  unfold QQ at p
  refine⟨σ3,g,μ,Rp,?_⟩
  cases hm:me σ3 g with
  |raise _ _=>rw[hm]at p;exact p
  |stuck=>rw[hm]at p;exact p.elim
  |ok d g1 =>
   rw[hm,Res.bind_ok]at p
   intro v H1 μ1 e1 r1 q1
   unfold QaC at p
   cases q1 with
   |@tup a vs ds ht hs =>
    exact .inr ⟨a,rfl,⟨vs,ht⟩,p _ H1 μ1 e1 r1 (Qlc ht hs)⟩
   |@fl a vs ds ht hs=>exact .inl ⟨a,rfl,⟨vs,ht.sq⟩,p _ H1 μ1 e1 r1 (QmW ht hs)⟩
   |@ref n a hn =>
    dsimp only at p
    cases hg:g1[n]? with
    |none=>rw[hg]at p;exact p.elim
    |some o =>
     rw[hg]at p
     obtain⟨a',ha',orp⟩:=r1.addr hg
     rw[hn]at ha';cases ha'
     cases o with
     |lst ds=>obtain⟨vs,hH,q⟩:=orp;exact .inl ⟨a,rfl,⟨vs,.of hH⟩,p _ H1 μ1 e1 r1 (Qld hn)⟩
     |_=>exact p.elim
   |_=>exact p.elim
theorem QaF(hm:X.mg "range" = none)(he:PE3 ca X e me)(hg:Gl X "range":=by rfl)(hs:starEach [e] X.env=[(false,eval e X.env)]:=by rfl):PI3 ca X tg (.Call (.Name "range" p) [e] [] pos) (Zs me) :=
 λpn Φ=>JB (Qg8 (X:=xat X ca pn Φ) hg hm (ZR he Qp hs pn Φ) hs) λσ H R hQ=>by
  obtain⟨σ3,g,μ,Rp,p⟩:=hQ
  refine⟨σ3,g,μ,Rp,?_⟩
  unfold Zs at p
  unfold Qb mNil
  cases hm:me σ3 g with
  |raise _ _=>rw[hm]at p;exact p
  |stuck=>rw[hm]at p;exact p.elim
  |ok d g1 =>
   rw[hm,Res.bind_ok]at p
   rw[Res.bind_ok,Res.bind_ok]
   intro vs H1 μ1 e1 r1 q1
   cases q1 with
   |cons h1 h2 =>
    cases h2
    cases h1 with
    |int j =>
     dsimp only at p
     by_cases hj:inR j
     ·rw[Uc hj]at p
      exact⟨j,rfl,hj.1,hj.2,p _ H1 μ1 e1 r1 (Qd4 X.K μ1 H1 0 j.toNat)⟩
     ·rw[Uh hj]at p;exact p.elim
    |_=>exact p.elim
theorem Qc6{e2:Expr}{me2:ME}(hm:X.mg "range" = none)(he:PE3 ca X e me)(he2:PE3 ca X e2 me2)(hg:Gl X "range":=by rfl)(hs:starEach [e,e2] X.env=[(false,eval e X.env),(false,eval e2 X.env)]:=by rfl)(hs2:starEach [e2] X.env=[(false,eval e2 X.env)]:=by rfl)(hs3:starEach [e,e2] X.env=(false,eval e X.env)::starEach [e2] X.env:=by rfl):PI3 ca X tg (.Call (.Name "range" p) [e,e2] [] pos) (Q7 me me2) :=
 λpn Φ=>JB (Qg9 (X:=xat X ca pn Φ) hg hm (ZR he (ZR he2 Qp hs2) hs3 pn Φ) hs hs2) λσ H R hQ=>by
  obtain⟨σ3,g,μ,Rp,p⟩:=hQ
  refine⟨σ3,g,μ,Rp,?_⟩
  unfold Q7 at p
  unfold Qb mNil
  cases hm:me σ3 g with
  |raise _ _=>rw[hm]at p;exact p
  |stuck=>rw[hm]at p;exact p.elim
  |ok d g1 =>
   rw[hm,Res.bind_ok]at p
   rw[Res.bind_ok]
   cases hm2:me2 σ3 g1 with
   |raise _ _=>rw[hm2]at p;exact p
   |stuck=>rw[hm2]at p;exact p.elim
   |ok d2 g2 =>
    rw[hm2,Res.bind_ok]at p
    rw[Res.bind_ok,Res.bind_ok,Res.bind_ok]
    intro vs H1 μ1 e1 r1 q1
    cases q1 with
    |cons h1 h2 =>
     cases h2 with
     |cons h2 h3 =>
      cases h3
      cases h1 with
      |int i =>
       cases h2 with
       |int j =>
        dsimp only at p
        by_cases hj:inR i/\inR j
        ·rw[Uc hj]at p
         exact⟨i,j,rfl,⟨hj.1.1,hj.1.2,hj.2.1,hj.2.2⟩,p _ H1 μ1 e1 r1 (Qd4 X.K μ1 H1 i (j-i).toNat)⟩
        ·rw[Uh hj]at p;exact p.elim
       |_=>exact p.elim
      |_=>cases h2 <;> exact p.elim
end
noncomputable def blk(X:Cx)(scope:Scope)(cl:List (Str×Addr))(C:Addr)(Nb:List Str)(s3:Shared)(H3:Hp)(ex:List Addr):Cx :=
 {X with env:=compEnvC scope cl C X.env,N:=Nb,s₀:=s3,H₀:=H3,outer:=X.stack,stack:=X.stack,ex:=ex,fn:=λ_=>false,pn:=[],xe:=λ_ _=>False}
structure BScope(X:Cx)(scope:Scope)(Nb:List Str)(no:Nat)(cap:List Nat):Prop where
 kind:scope.kind=.function
 cell:∀y∈scope.names,y.2≠.cell
 loc:∀y∈scope.names,y.2=.local->scope.names.lookup y.1=some .local
 free:∀y∈scope.names,y.2=.free->X.env.kindOf y.1=some .cell\/X.env.kindOf y.1=some .free
 len:Nb.length=no+cap.length
 cap:∀(j i:Nat),cap[j]?=some i->∃x,Nb[no+j]?=some x/\X.N[i]?=some x/\scope.names.lookup x=some .free/\Vis X.env.scope x/\X.env.kindOf x≠some .local
noncomputable def clOf(cells:List (Str×Addr)):List (Str×NameKind)->List (Str×Addr)->Option (List (Str×Addr))
 |[],cs=>some cs
 | (n,k)::r,cs=>if (k == .free)=true then (match cells.lookup n with
  |some a=>clOf cells r ((n,a)::cs)
  |none=>none) else clOf cells r cs
theorem Qa5{env:Env}:∀(names:List (Str×NameKind))(cs cl:List (Str×Addr)),clOf env.cells names cs=some cl ->
  (forIn names cs λ(x:Str×NameKind)(r:List (Str×Addr))=>(match x with
   | (name,kind)=>if (kind == .free)=true then (do let a <-cellOf env name;pure (ForInStep.yield ((name,a)::r))) else pure (ForInStep.yield r):Sem (ForInStep (List (Str×Addr)))))=(pure cl:Sem (List (Str×Addr)))
 |[],cs,cl,h=>by cases h;rfl
 | (n,k)::r,cs,cl,h=>by
  unfold clOf at h
  rw[Ws]
  by_cases hk:(k == .free)=true
  ·rw[Uc hk]at h
   cases hl:env.cells.lookup n with
   |none=>rw[hl]at h;cases h
   |some a =>
    rw[hl]at h
    dsimp only at h ⊢
    rw[Uc hk]
    unfold cellOf
    rw[hl]
    exact Qa5 r _ cl h
  ·rw[Uh hk]at h
   dsimp only
   rw[Uh hk]
   exact Qa5 r _ cl h
theorem QaG{scope:Scope}{env:Env}{cl:List (Str×Addr)}(h:clOf env.cells scope.names []=some cl):closureFor scope env=pure cl:=by
 have q:=Qa5 (env:=env) scope.names [] cl h
 unfold closureFor
 exact T2 (λt=>t >>= λr=>(pure r:Sem _)) q
theorem QaH{cells:List (Str×Addr)}:∀(names:List (Str×NameKind))(cs:List (Str×Addr)),(∀y∈names,y.2=.free->∃c,cells.lookup y.1=some c)->∃cl,clOf cells names cs=some cl
 |[],cs,_=>⟨cs,rfl⟩
 | (n,k)::r,cs,h=>by
  unfold clOf
  by_cases hk:(k == .free)=true
  ·rw[Uc hk]
   obtain⟨c,e⟩:=h (n,k) Ur (Td.mp hk)
   rw[show cells.lookup n=some c from e]
   exact QaH r _ λy hy=>h y (Ut _ hy)
  ·rw[Uh hk]
   exact QaH r _ λy hy=>h y (Ut _ hy)
theorem YQ{cells:List (Str×Addr)}:∀(names:List (Str×NameKind))(cs cl:List (Str×Addr)),clOf cells names cs=some cl->(∀x c,cs.lookup x=some c->cells.lookup x=some c)->∀x c,cl.lookup x=some c->cells.lookup x=some c
 |[],cs,cl,h,hc=>by cases h;exact hc
 | (n,k)::r,cs,cl,h,hc=>by
  unfold clOf at h
  by_cases hk:(k == .free)=true
  ·rw[Uc hk]at h
   cases hl:cells.lookup n with
   |none=>rw[hl]at h;cases h
   |some a =>
    rw[hl]at h
    refine YQ r _ cl h λx c e=>?_
    by_cases z:x=n
    ·subst z
     simp only[List.lookup,beq_self_eq_true]at e
     cases e
     exact hl
    ·have zb:(x == n)=false:=UT.mpr z
     simp only[List.lookup,zb]at e
     exact hc x c e
  ·rw[Uh hk]at h
   exact YQ r _ cl h hc
theorem QbI{cells:List (Str×Addr)}:∀(names:List (Str×NameKind))(cs cl:List (Str×Addr)),clOf cells names cs=some cl->∀x,(x∈names.filterMap λy=>if (y.2 == .free)=true then some y.1 else none)\/(∃c,cs.lookup x=some c)->∃c,cl.lookup x=some c
 |[],cs,cl,h,x,hx=>by
  cases h
  rcases hx with hx|hx
  ·simp at hx
  ·exact hx
 | (n,k)::r,cs,cl,h,x,hx=>by
  unfold clOf at h
  by_cases hk:(k == .free)=true
  ·rw[Uc hk]at h
   cases hl:cells.lookup n with
   |none=>rw[hl]at h;cases h
   |some a =>
    rw[hl]at h
    refine QbI r _ cl h x ?_
    by_cases z:x=n
    ·subst z
     exact .inr ⟨a,by simp[List.lookup]⟩
    ·have zb:(x == n)=false:=UT.mpr z
     rcases hx with hx|⟨c,hx⟩
     ·rw[Tu]at hx
      simp only[hk,RC]at hx
      rcases Uu.mp hx with e|e
      ·exact absurd e z
      ·exact .inl e
     ·exact .inr ⟨c,by simp only[List.lookup,zb];exact hx⟩
  ·rw[Uh hk]at h
   refine QbI r _ cl h x ?_
   rcases hx with hx|hx
   ·rw[Tu]at hx
    simp only[hk]at hx
    exact .inl (by simpa using hx)
   ·exact .inr hx
theorem QbZ{names:List (Str×NameKind)}{x:Str}(h:names.lookup x=some .free):x∈names.filterMap λy=>if (y.2 == .free)=true then some y.1 else none :=
 RL.mpr ⟨(x,.free),Tv h,by simp⟩
theorem JC{env:Env}:∀{names:List (Str×NameKind)}{x:Str}{k:NameKind},(∀y∈names,y.2≠.cell) ->
  (names.map λ(n,k)=>if (k == NameKind.free && env.scope.kind == .function && env.kindOf n == some .cell) then (n,NameKind.cell) else (n,k)).lookup x=some k->(k=.cell\/k=.free)->names.lookup x=some .free
 |[],_,_,_,h,_=>by cases h
 | (n,k0)::r,x,k,hn,h,hk=>by
  have ih:=@JC env r x k λy hy=>hn y (Ut _ hy)
  rw[UH]at h
  by_cases hc:(k0 == NameKind.free && env.scope.kind == .function && env.kindOf n == some .cell)=true
  ·have k0f:k0=.free:=by
    simp only[UD]at hc
    exact Td.mp hc.1.1
   dsimp only at h
   rw[Uc hc]at h
   cases hx:x == n with
   |true=>simp only[List.lookup,hx];rw[k0f]
   |false=>simp only[List.lookup,hx]at h ⊢;exact ih h hk
  ·dsimp only at h
   rw[Uh hc]at h
   cases hx:x == n with
   |true =>
    simp only[List.lookup,hx]at h ⊢
    cases h
    rcases hk with e|e
    ·exact absurd e (hn (n,k0) Ur)
    ·rw[e]
   |false=>simp only[List.lookup,hx]at h ⊢;exact ih h hk
theorem Qd5{prog:Program}{w:World}{A:Around}{R:Result->Shared->Prop}{s:Shared}{elt target iter:Expr}{ifs:List Expr}{scope:Scope}{pos:Pos}{it acc:Value}{env:Env}(I:Nat->Shared->Prop)(turn:∀n s,I n s->wpAny (model prog w) A (pyNext it) (λr s₁=>match r with
   |none=>R (.ok .next) s₁
   |some v=>wpAny (model prog w) A (letOwnedTupleGo target it v) (λ_ s1'=>wpAny (model prog w) A (assign target env v) (λ_ s₂ =>
     wpAny (model prog w) A (forIn ifs true λc r=>if r=true then do let ok <-isTrue c env (eval c env);pure (ForInStep.yield ok) else pure (ForInStep.yield r)) (λok s₃ =>
      if ok=true then wpAny (model prog w) A (eval elt env) (λx s₄ =>
       wpAny (model prog w) A (call (.builtin "list.append") [acc,x]) (λ_ s₅=>∃m,m<n/\I m s₅) (λ_ _=>False) s₄) (λ_ _=>False) s₃
      else ∃m,m<n/\I m s₃) (λ_ _=>False) s₂) (λ_ _=>False) s1') (λ_ _=>False) s₁) (λ_ _=>False) s)(n:Nat)(h:I n s):codeAny (model prog w) A (.compLoop (.ListComp elt [⟨target,iter,ifs,0⟩] scope pos) 0 it acc env) R s:=by
 refine codeAny_loop rfl I (λn s hI=>?_) n h
 show wpAny _ A ((compTurn (.ListComp elt [⟨target,iter,ifs,0⟩] scope pos) 0 it acc env).onRaise (λx=>do noteFrame x env;theTreesLotGoes x)) _ _ s
 refine wpAny_noted ?_
 rw[compTurn_list]
 refine Ua (RW (Ua (Tc (turn n s hI) (λr s₁ h₁=>?_) λ_ _ h'=>h'.elim)))
 cases r with
 |none=>exact Uj h₁
 |some v =>
  refine Ua (Tc h₁ (λ_ s1' h1'=>?_) λ_ _ h'=>h'.elim)
  refine Ua (Tc h1' (λ_ s₂ h₂=>Ua (Tc h₂ (λok s₃ h₃=>?_) λ_ _ h'=>h'.elim)) λ_ _ h'=>h'.elim)
  cases ok with
  |false=>exact Uj ⟨rfl,h₃⟩
  |true =>
   exact Ua (Ua (Tc h₃ (λx s₄ h₄=>Ua (Tc h₄ (λ_ s₅ h₅=>Uj (Uj ⟨rfl,h₅⟩)) λ_ _ h'=>h'.elim)) λ_ _ h'=>h'.elim))
theorem Inv.track{X:Cx}{pins:List (Addr×Obj)}{σ:L2.St}{H:Hp}{s:Shared}{a:Addr}{o:HO}(I:Inv X pins σ H s)(ha:FpOk X pins H a)(new:ObjOk X.prog X.w (upd H a o) s.heap a o):Inv X pins σ (upd H a o) s:=by
 obtain⟨f0,f1,f2,f3,f4,f5⟩:=ha
 have ne:∀b u,H b=some u->b≠a:=λb u e=>QM e f0
 refine I.step (h':=s.heap) (g':=s.gens) (t':=s.toks) (d':=s.drawn) (ch:=[a]) (λb hb=>?_) (λb o _ _ _ e _=>e) (λb o _ _ _ e _=>⟨o.slots,e⟩) (λb o hb e n=>?_) (λb o _ e=>⟨o,e⟩)
  (λb xs e=>by rw[Qs (ne b _ e)];exact e) (λb o u e=>by rw[Qs (ne b _ e)];exact e) (λb ps e=>⟨#[],by rw[Qs (ne b _ e),e];simp⟩) (λ_ h=>h) (λb u e=>?_) I.bare
 ·have e:b=a:=by simpa using hb
  subst e
  exact⟨f3,f1,f4,f5⟩
 ·rw[Qs (λz=>hb (by simp[z]))];exact n
 ·by_cases hb:b=a
  ·subst hb;rw[Qq]at e;cases e;exact new
  ·rw[Qs hb]at e
   exact(I.hok b u e).stay (λ_ _ _ q=>q) (λc q=>by rw[Qs (ne c _ q)];exact q) λc xs q=>by rw[Qs (ne c _ q)];exact q
theorem FpOk.mono{X:Cx}{pins:List (Addr×Obj)}{H H':Hp}{b:Addr}(h:FpOk X pins H b)(n:H' b=none):FpOk X pins H' b:=⟨n,h.2⟩
noncomputable abbrev F0:XS:=λ_ _ _=>False
theorem noX{α:Type}{M:Model}{A:Around}{X:Cx}{ca:Nat->Addr}{t:Sem α}{Q:α->Shared->Prop}{s:Shared}(h:wpAny M A t Q (XE X ca F0) s):wpAny M A t Q (λ_ _=>False) s:=Tc h (λ_ _ z=>z) λ_ _ ⟨_,_,_,_,_,_,_,z⟩=>z
noncomputable def PIf(ca:Nat->Addr)(X:Cx)(ifs:List Expr)(m:MT):Prop :=
 ∀(pins:List (Addr×Obj))(s:Shared)(σ:L2.St)(H:Hp)(Q:Bool->Hp->Prop),Inv (xat X ca [] F0) pins σ H s->upT X.K ca F0 m σ H Q ->
  wpAny (model X.prog X.w) X.A (forIn ifs true λc r=>if r=true then do let ok <-isTrue c X.env (eval c X.env);pure (ForInStep.yield ok) else pure (ForInStep.yield r)) (TP (xat X ca [] F0) pins σ Q) (λ_ _=>False) s
theorem QeS{X:Cx}{ca:Nat->Addr}:PIf ca X [] Yf:=by
 intro pins s σ H Q I ⟨_,_,μ,R,p⟩
 rw[WJ]
 exact Uj ⟨H,I,p H μ .refl R.g⟩
theorem QhF{X:Cx}{ca:Nat->Addr}{c:Expr}{m:MT}(h:PT3 ca X c m):PIf ca X [c] m:=by
 intro pins s σ H Q I q
 exact wpAny_tests_one (noX (h [] F0 pins s σ H Q I q))
section
variable{X:Cx}{ca:Nat->Addr}{pn:List (Addr×Obj)}
theorem QmY{scope:Scope}{Nb:List Str}{no:Nat}{cap:List Nat}{cl:List (Str×Addr)}{pins:List (Addr×Obj)}{σ:L2.St}{H:Hp}{s:Shared}{ex:List Addr}(B:BScope X scope Nb no cap)(hcl:clOf X.env.cells scope.names []=some cl)(I:Inv (xat X ca pn F0) pins σ H s)(hex:∀b∈ex,FpOk (xat X ca pn F0) pins H b)(hlt:∀b∈ex,b<s.heap.objs.size):(xat (blk X scope cl s.heap.objs.size Nb s H ex) ca [] F0).Ok where
 mod:=I.ok.mod
 kind:=B.kind
 glob:=I.ok.glob
 blt:=I.ok.blt
 above:=Ug _
 inj:=λx y c h1 h2=>I.ok.inj x y c (YQ _ _ _ hcl (λ_ _ z=>by cases z) x c h1) (YQ _ _ _ hcl (λ_ _ z=>by cases z) y c h2)
 has:=λx hx=>QbI _ _ _ hcl x (.inl (QbZ (by
  rcases hx with hx|hx
  ·exact JC B.cell hx (.inl rfl)
  ·exact JC B.cell hx (.inr rfl))))
 cab:=λ_ _ z=>by cases z
 hd:=I.ok.hd
 frames:=I.ok.frames
 stk:=.inl rfl
 exf:=λb hb=>⟨UE (hlt b hb),λx c e z=>(hex b hb).2.2.2.2.1 x c (YQ _ _ _ hcl (λ_ _ z=>by cases z) x c e) z⟩
 bs:=I.bs
 bsz:=Ux I.ok.bsz I.sz
 noex:=λb o e hb=>by
  rcases(hex b hb).2.2.2.1 with z|z
  ·exact I.ok.noex b o e z
  ·exact absurd (Uw (Uk e) (Ux I.ok.bsz z)) (Ti _)
 exfs:=λb hb z=>by
  rcases Uu.mp (I.stkSub b z) with e|e
  ·exact(hex b hb).2.1 e
  ·exact(hex b hb).2.2.1 e
 funs:=I.stack
 frf:=I.stkFree
theorem Je{env:Env}:∀{names:List (Str×NameKind)}{x:Str},names.lookup x=some .free ->
  (names.map λ(n,k)=>if (k == NameKind.free && env.scope.kind == .function && env.kindOf n == some .cell) then (n,NameKind.cell) else (n,k)).lookup x=some .local->False
 |[],_,h,_=>by cases h
 | (n,k0)::r,x,h,h'=>by
  have ih:=@Je env r x
  rw[UH]at h'
  dsimp only at h'
  by_cases hc:(k0 == NameKind.free && env.scope.kind == .function && env.kindOf n == some .cell)=true
  ·rw[Uc hc]at h'
   cases hx:x == n with
   |true=>simp only[List.lookup,hx]at h';cases h'
   |false=>simp only[List.lookup,hx]at h h';exact ih h h'
  ·rw[Uh hc]at h'
   cases hx:x == n with
   |true=>simp only[List.lookup,hx]at h h';rw[h']at h;cases h
   |false=>simp only[List.lookup,hx]at h h';exact ih h h'
theorem Qi7{K:Frag}{ca:Nat->Addr}{μ2:List Addr}{σ3:S3}{g1:G}{σ:L2.St}{H2:Hp}(no:Nat)(cap:List Nat)(R2:Rep K ca μ2 σ3 g1 σ H2):Rep K ca μ2 (capt no cap σ3) g1 (List.replicate no none++cap.map λi=>(σ[i]?).getD none) H2:=by
 refine⟨R2.g,?_,λi d h=>?_⟩
 ·unfold capt
  rw[UB,UB,U0,U0,Um,Um]
 ·unfold capt at h
  have hi:no<=i:=by
   apply TU
   intro hlt
   rw[Uy (by simpa using hlt),TR,Uc hlt]at h
   cases h
  rw[UJ (by simpa using hi),U0,UK]at h ⊢
  cases hcp:cap[i-no]? with
  |none=>rw[hcp]at h;cases h
  |some j =>
   rw[hcp]at h
   have h:(σ3[j]?).getD none=some d:=by simpa using h
   have hs:σ3[j]?=some (some d):=by
    cases z:σ3[j]? with
    |none=>rw[z]at h;cases h
    |some w=>rw[z]at h;have h:w=some d:=h;rw[h]
   obtain⟨v,h1,h2⟩:=R2.st j d hs
   exact⟨v,by simp[h1],h2⟩
theorem Qd6{tg iter elt:Expr}{ifs:List Expr}{scope:Scope}{pos:Pos}{Nb:List Str}{no:Nat}{cap:List Nat}{cl:List (Str×Addr)}{f:MG}{tc:MT}{me:ME}{src:Src}{pins:List (Addr×Obj)}{σ:L2.St}{σ3:S3}{H2:Hp}{s2:Shared}{μ2:List Addr}{g1 g2:G}{ds:List D}{it:Addr}{fp:List Addr}{tn:Nat->Heap->Prop}{J:It}{RR:Value->Addr->Result->Shared->Prop}{E:Value->Shared->Prop}(B:BScope X scope Nb no cap)(hc:X.calm=true)(hb:∀cl C s3 H3 ex,PG3 ca (blk X scope cl C Nb s3 H3 ex) tg f/\PIf ca (blk X scope cl C Nb s3 H3 ex) ifs tc/\PE3 ca (blk X scope cl C Nb s3 H3 ex) elt me)(hcl:clOf X.env.cells scope.names []=some cl)(I2:Inv (xat X ca pn F0) pins σ H2 s2)(T:Turn X.prog X.w X.K tg J fp it tn)(st2:tn 0 s2.heap)(f2:∀b∈fp,FpOk (xat X ca pn F0) pins H2 b)(R2:Rep X.K ca μ2 σ3 g1 σ H2)(sim:Sim X.K ca μ2 H2 src J)(hz:src.top<=SZ)(hL:Y2 src f tc me (src.top+1) 0 (capt no cap σ3) g1 []=.ok ds g2)(fin:∀(D C:Addr) (s':Shared) (H4:Hp) (μ4:List Addr) (accV:List V) (its:List Value) (k:Nat),Inv (xat X ca pn F0) pins σ H4 s'->(∃m,s'.heap.Ns C m)->FpOk (xat X ca pn F0) pins H4 C->FpOk (xat X ca pn F0) pins H4 D->D≠C ->
   s'.heap.get? D=some {cls:=.type "list",data:=.seq its.toArray k}->Vals accV its->accV.length<=sizeLine->Ext X.K μ2 H2 μ4 H4->GRep X.K ca μ4 H4 g2->Dens X.K μ4 H4 accV ds->RR (.ref D) C (.ok .next) s'):
  wpAny (model X.prog X.w) X.A (newList []) (λacc s₃=>wpAny (model X.prog X.w) X.A (newFunctionEnv scope X.env.globals cl [] X.env.qual none .none (some X.env)) (λcenv s₄ =>
   codeAny (model X.prog X.w) X.A (.compStart (.ListComp elt [⟨tg,iter,ifs,0⟩] scope pos) 0 (.ref it) acc {cenv with scope:=relabel scope X.env}) (RR acc cenv.locals) s₄) E s₃) E s2:=by
 refine U2 (wpAny_newFunctionEnv B.cell (by intro y hy;simp at hy) (λh₁ hns₁ hsb₁=>?_) B.kind)
 dsimp only at hns₁ hsb₁ ⊢
 generalize hH2:s2.heap.push {cls:=.type "list",dict:=none,data:=.seq ([]:List Value).toArray}=hp at hns₁ hsb₁ ⊢
 have hC:hp.objs.size=s2.heap.objs.size+1:=by rw[<-hH2,Tq]
 have I3:Inv (xat X ca pn F0) pins σ H2 {s2 with heap:=hp}:=by rw[<-hH2];exact I2.kept (t':=s2.toks) λb o e=>Ub _ e
 have hD3:hp.get? s2.heap.objs.size=some {cls:=.type "list",data:=.seq ([]:List Value).toArray}:=by rw[<-hH2];exact Ul _ rfl
 have fD:FpOk (xat X ca pn F0) pins H2 s2.heap.objs.size:=I2.fpOk (Ug _) (I2.hok.fresh (Ug _))
 have fC:FpOk (xat X ca pn F0) pins H2 hp.objs.size:=I3.fpOk (Ug _) (I3.hok.fresh (Ug _))
 have fplt:∀b∈fp,b<s2.heap.objs.size:=λb hb=>by
  obtain⟨o,e,_⟩:=T.obj 0 _ st2 b hb
  exact Uk e
 have DnF:s2.heap.objs.size∉fp:=λh=>Ti _ (fplt _ h)
 have DnC:s2.heap.objs.size≠hp.objs.size:=by rw[hC];exact UE (Tl _)
 have exOk:∀b∈s2.heap.objs.size::fp,FpOk (xat X ca pn F0) pins H2 b:=λb hb=>by
  rcases Uu.mp hb with e|e
  ·rw[e];exact fD
  ·exact f2 b e
 have exLt:∀b∈s2.heap.objs.size::fp,b<hp.objs.size:=λb hb=>by
  rcases Uu.mp hb with e|e
  ·rw[e,hC];exact Tl _
  ·rw[hC];exact Nat.lt_succ_of_lt (fplt b e)
 have okb:(xat (blk X scope cl hp.objs.size Nb {s2 with heap:=hp} H2 (s2.heap.objs.size::fp)) ca [] F0).Ok:=QmY (s:={s2 with heap:=hp}) B hcl I3 exOk exLt
 obtain⟨hgB,hiB,heB⟩:=hb cl hp.objs.size {s2 with heap:=hp} H2 (s2.heap.objs.size::fp)
 have old:∀b o,hp.get? b=some o->h₁.get? b=some o:=λb o e=>hsb₁.extBut b o (UE (Uk e)) (Ub _ e)
 -- the block's first state
 have Ib:Inv (xat (blk X scope cl hp.objs.size Nb {s2 with heap:=hp} H2 (s2.heap.objs.size::fp)) ca [] F0) [] (List.replicate no none++cap.map λi=>(σ[i]?).getD none) H2 {s2 with heap:=h₁,toks:=s2.toks+([]:List (Str×Value)).length}:=by
  refine⟨okb,rfl,I3.bare,Un.kept old,⟨_,hns₁,λi x v h1 h2 h3=>?_⟩,λx c e=>?_,fC.1,λx c e=>?_,λp hp=>absurd (show p∈([]:List (Addr×Obj)) from hp) (by simp),I3.hok.kept old,?_⟩
  ·have hi:no<=i:=by
    apply TU
    intro hlt
    rw[Uy (by simpa using hlt),TR,Uc hlt]at h2
    cases h2
   rw[UJ (by simpa using hi),U0,UK]at h2
   cases hcp:cap[i-no]? with
   |none=>rw[hcp]at h2;cases h2
   |some j =>
    rw[hcp]at h2
    have h2:(σ[j]?).getD none=some v:=by simpa using h2
    have hs:σ[j]?=some (some v):=by
     cases z:σ[j]? with
     |none=>rw[z]at h2;cases h2
     |some w=>rw[z]at h2;have h2:w=some v:=h2;rw[h2]
    obtain⟨y,n1,n2,n3,n4,n5⟩:=B.cap (i-no) j hcp
    have e0:no+(i-no)=i:=by omega
    rw[e0]at n1
    have h1:Nb[i]?=some x:=h1
    have hxy:y=x:=Option.some.inj (n1.symm.trans h1)
    subst hxy
    obtain⟨m,hn,hl⟩:=I3.loc
    obtain⟨u,ru,lk⟩:=hl j y v n2 hs n4
    refine⟨u,ru,.inr ⟨?_,?_⟩⟩
    ·rcases h3 with z|z|z
     ·exact(Je n3 z).elim
     ·exact .inl z
     ·exact .inr z
    ·rcases lk with⟨k1,_⟩|⟨_,c,k2,k3⟩
     ·exact absurd k1 n5
     ·obtain⟨c',hc'⟩:=QbI _ _ _ hcl y (.inl (QbZ n3))
      have:=YQ _ _ _ hcl (λ_ _ z=>by cases z) y c' hc'
      have k2:X.env.cells.lookup y=some c:=k2
      have hcc:c'=c:=Option.some.inj (this.symm.trans k2)
      subst hcc
      exact⟨c',hc',k3.keeps old⟩
  ·obtain⟨v,z⟩:=I3.cell x c (YQ _ _ _ hcl (λ_ _ z=>by cases z) x c e)
   exact⟨v,z.keeps old⟩
  ·exact I3.freeC x c (YQ _ _ _ hcl (λ_ _ z=>by cases z) x c e)
  ·rw[UB,U0,Um];exact B.len.symm
 have RbR:=Qi7 no cap R2
 have eK:(xat (blk X scope cl hp.objs.size Nb {s2 with heap:=hp} H2 (s2.heap.objs.size::fp)) ca [] F0).K=X.K:=rfl
 have eP:(xat (blk X scope cl hp.objs.size Nb {s2 with heap:=hp} H2 (s2.heap.objs.size::fp)) ca [] F0).prog=X.prog:=rfl
 have eW:(xat (blk X scope cl hp.objs.size Nb {s2 with heap:=hp} H2 (s2.heap.objs.size::fp)) ca [] F0).w=X.w:=rfl
 have eA:(xat (blk X scope cl hp.objs.size Nb {s2 with heap:=hp} H2 (s2.heap.objs.size::fp)) ca [] F0).A=X.A:=rfl
 have eE:(xat (blk X scope cl hp.objs.size Nb {s2 with heap:=hp} H2 (s2.heap.objs.size::fp)) ca [] F0).env=compEnvC scope cl hp.objs.size X.env:=rfl
 have eC:(xat (blk X scope cl hp.objs.size Nb {s2 with heap:=hp} H2 (s2.heap.objs.size::fp)) ca [] F0).calm=true:=hc
 have eX:∀b∈s2.heap.objs.size::fp,b∈(xat (blk X scope cl hp.objs.size Nb {s2 with heap:=hp} H2 (s2.heap.objs.size::fp)) ca [] F0).ex:=λb hb=>hb
 have eN:∀{pl:List (Addr×Obj)}{p:Addr×Obj},p∈(xat (blk X scope cl hp.objs.size Nb {s2 with heap:=hp} H2 (s2.heap.objs.size::fp)) ca [] F0).pn++pl->p∈pl:=λh=>h
 have toUn:∀{pl:List (Addr×Obj)}{σ':L2.St}{H':Hp}{s':Shared},Inv (xat (blk X scope cl hp.objs.size Nb {s2 with heap:=hp} H2 (s2.heap.objs.size::fp)) ca [] F0) pl σ' H' s'->Un (frs (xat X ca pn F0).stack) (s2.heap.objs.size::fp) H2 H' hp s'.heap:=λI=>I.base
 have toOs:∀{pl:List (Addr×Obj)}{σ':L2.St}{H':Hp}{s':Shared},Inv (xat (blk X scope cl hp.objs.size Nb {s2 with heap:=hp} H2 (s2.heap.objs.size::fp)) ca [] F0) pl σ' H' s'->s'.os=s2.os:=λI=>I.os
 generalize blk X scope cl hp.objs.size Nb {s2 with heap:=hp} H2 (s2.heap.objs.size::fp)=Xb at okb hgB hiB heB Ib eK eP eW eA eE eC eX eN toUn toOs
 -- the iterator's records,through the block
 have FpB:∀{H:Hp}{pl:List (Addr×Obj)},(∀b∈fp,H b=none)->(∀p∈pl,p.1∉fp)->∀b∈fp,FpOk (xat Xb ca [] F0) pl H b:=λ{H pl} hn hpl b hb=>by
  have e0:=okb.exf b (eX b (Ut _ hb))
  refine⟨hn b hb,e0.1,?_,.inl (eX b (Ut _ hb)),e0.2,λp hp z=>?_⟩
  ·exact okb.exfs b (eX b (Ut _ hb))
  ·have hp':p∈pl:=eN hp
   exact hpl p hp' (z ▸ hb)
 have FpD:∀{H:Hp},H s2.heap.objs.size=none->FpOk (xat Xb ca [] F0) [] H s2.heap.objs.size:=λ{H} hn=>by
  have e0:=okb.exf s2.heap.objs.size (eX _ Ur)
  refine⟨hn,e0.1,?_,.inl (eX _ Ur),e0.2,λp hp=>?_⟩
  ·exact okb.exfs s2.heap.objs.size (eX _ Ur)
  ·exact absurd (eN hp) (by simp)
 have st4:tn 0 h₁:=T.keep _ _ _ st2 λb hb o e=>old b o (by rw[<-hH2];exact Ub _ e)
 -- the invariant
 have loop:∀s4:Shared,s4 = {s2 with heap:=h₁,toks:=s2.toks+([]:List (Str×Value)).length} ->
   codeAny (model X.prog X.w) X.A (.compLoop (.ListComp elt [⟨tg,iter,ifs,0⟩] scope pos) 0 (.ref it) (.ref s2.heap.objs.size) (compEnvC scope cl hp.objs.size X.env)) (RR (.ref s2.heap.objs.size) hp.objs.size) s4:=by
  rintro s4 rfl
  refine Qd5 (λn s'=>∃(i:Nat)(σ4:S3)(g4:G)(μ4:List Addr)(σ5:L2.St)(H4:Hp)(acc:List D)(accV:List V)(its:List Value)(k:Nat),Inv (xat Xb ca [] F0) [] σ5 H4 s'/\tn i s'.heap/\(∀b∈fp,H4 b=none)/\H4 s2.heap.objs.size=none /\
   s'.heap.get? s2.heap.objs.size=some {cls:=.type "list",data:=.seq its.toArray k}/\Vals accV its/\Ext X.K μ2 H2 μ4 H4/\Rep X.K ca μ4 σ4 g4 σ5 H4/\Dens X.K μ4 H4 accV acc/\Y2 src f tc me n i σ4 g4 acc=.ok ds g2 /\
   acc.length<=i/\i+n<=SZ+1) ?_ (src.top+1) ⟨0,capt no cap σ3,g1,μ2,_,H2,[],[],[],_,Ib,st4,λb hb=>(f2 b hb).1,fD.1,old _ _ hD3,.nil,.refl,RbR,.nil,hL,Ug _,by omega⟩
  rintro n s5 ⟨i,σ4,g4,μ4,σ5,H4,acc,accV,its,k,I5,st5,fr5,frD,hD5,va,e5,R5,da,hl5,ha5,hn5⟩
  cases n with
  |zero=>cases hl5
  |succ n =>
   unfold Y2 at hl5
   have s1:=sim i H4 μ4 g4 e5 R5.g
   have pinD:Inv (xat Xb ca [] F0) [(s2.heap.objs.size,{cls:=.type "list",data:=.seq its.toArray k})] σ5 H4 s5:=I5.pins_of λp hp=>by
    rw[Uf.mp hp]
    have z:=FpD frD
    exact⟨hD5,frD,z.2.1,z.2.2.1,λv q=>by cases q⟩
   have nofp:∀p∈[(s2.heap.objs.size,({cls:=.type "list",data:=.seq its.toArray k}:Obj))],p.1∉fp:=λp hp=>by rw[Uf.mp hp];exact DnF
   have getD:∀{σ':L2.St}{H':Hp}{s':Shared}{pl:List (Addr×Obj)},Inv (xat Xb ca [] F0) ([(s2.heap.objs.size,({cls:=.type "list",data:=.seq its.toArray k}:Obj))]++pl) σ' H' s'->s'.heap.get? s2.heap.objs.size=some {cls:=.type "list",data:=.seq its.toArray k}/\H' s2.heap.objs.size=none:=λ{σ' H' s' pl} I'=>by
    have z:=I'.pin (s2.heap.objs.size,{cls:=.type "list",data:=.seq its.toArray k}) (Uv _ (UQ _ (Uf.mpr rfl)))
    exact⟨z.1,z.2.1⟩
   cases hat:src.at' g4 i with
   |none=>rw[hat]at hl5;cases hl5
   |some od =>
    rw[hat]at hl5 s1
    cases od with
    |none =>
     cases hl5
     have dn:=T.done (xat Xb ca [] F0) eP eW eK eC i _ s5 σ5 H4 (λ_ _=>False) pinD (FpB fr5 nofp) st5 s1
     rw[eA]at dn
     refine thn dn λr s6 ⟨hr,I6⟩=>?_
     subst hr
     obtain⟨hD6,frD6⟩:=getD (pl:=[]) (by rw[U6];exact I6)
     have un:Un (frs (xat X ca pn F0).stack) (s2.heap.objs.size::fp) H2 H4 hp s6.heap:=toUn I6
     have hok:HOk (xat X ca pn F0).prog (xat X ca pn F0).w H4 s6.heap:=by have:=I6.hok;rw[eP,eW]at this;exact this
     have os:s6.os=s2.os:=toOs I6
     have I7:Inv (xat X ca pn F0) pins σ H4 s6:=Inv.call' (s':=s6) (ch:=s2.heap.objs.size::fp) I3 os un hok I6.bare λb hb=>⟨(exOk b hb).2.2.2.1,(exOk b hb).2.1,(exOk b hb).2.2.2.2.1,(exOk b hb).2.2.2.2.2⟩
     have hCn:H4 hp.objs.size=none:=by have:=I6.free;rw[eE]at this;exact this
     have nsC:∃m,s6.heap.Ns hp.objs.size m:=by obtain⟨m,hm,_⟩:=I6.loc;rw[eE]at hm;exact⟨m,hm⟩
     refine fin _ _ s6 H4 μ4 accV its k I7 nsC (FpOk.mono fC hCn) (FpOk.mono fD frD6) DnC hD6 va ?_ e5 R5.g da
     rw[da.length]
     have:=JA
     omega
    |some d =>
     obtain⟨go,yl⟩:=s1
     dsimp only at hl5
     cases hf:f d σ4 with
     |none=>rw[hf]at hl5;cases hl5
     |some σ6 =>
      rw[hf]at hl5
      dsimp only at hl5
      have im:=T.item (xat Xb ca [] F0) eP eW eK eC i _ s5 σ5 H4 (λ_ _=>False) pinD (FpB fr5 nofp) st5 go
      rw[eA]at im
      refine thn im λr s6 ⟨u,hr,h6⟩=>?_
      subst hr
      refine thn h6 λ_ s7 ⟨x,H7,I7,r7,y7,st7,fr7⟩=>?_
      obtain⟨e7,g7,q7⟩:=yl x H7 y7
      have I7':=I7.pinned (FpB fr7 nofp) (T.obj _ _ st7)
      have R7:=R5.go e7 g7
      have asg:=hgB [] F0 _ s7 σ5 H7 x u (λσ' H'=>H'=H7/\Rep X.K ca μ4 σ6 g4 σ' H7) I7' r7 (by
       have:Xb.K=X.K:=eK
       rw[this]
       exact⟨σ4,g4,μ4,d,σ6,R7,q7,hf,λσ' R'=>⟨rfl,R'⟩⟩)
      rw[eP,eW,eA,eE]at asg
      refine thn (noX asg) λ_ s8 ⟨σ8,H8,I8,e8,R8⟩=>?_
      subst e8
      cases ht:tc σ6 g4 with
      |raise _ _=>rw[ht]at hl5;cases hl5
      |stuck=>rw[ht]at hl5;cases hl5
      |ok b g9 =>
       rw[ht]at hl5
       have hl5:(if b=true then (match me σ6 g9 with | .ok y g2=>Y2 src f tc me n (i+1) σ6 g2 (acc++[y])|_=>.stuck) else Y2 src f tc me n (i+1) σ6 g9 acc)=.ok ds g2:=hl5
       have tst:=hiB _ s8 σ8 _ (λb' H'=>b'=b/\∃μ9,Ext X.K μ4 H8 μ9 H'/\Rep X.K ca μ9 σ6 g9 σ8 H') I8 (by
        have:Xb.K=X.K:=eK
        rw[this]
        refine⟨σ6,g4,μ4,R8,?_⟩
        rw[ht]
        exact λH' μ' e' r'=>⟨rfl,μ',e',R8.go e' r'⟩)
       have eP':Xb.prog=X.prog:=eP
       have eW':Xb.w=X.w:=eW
       have eA':Xb.A=X.A:=eA
       have eE':Xb.env=compEnvC scope cl hp.objs.size X.env:=eE
       rw[eP',eW',eA',eE']at tst
       refine thn tst λok s9 ⟨H9,I9,eb,μ9,e9,R9⟩=>?_
       subst eb
       have again:∀{σ':L2.St}{H':Hp}{s':Shared},Inv (xat Xb ca [] F0) ([(s2.heap.objs.size,({cls:=.type "list",data:=.seq its.toArray k}:Obj))]++QdP fp s7.heap) σ' H' s'->Inv (xat Xb ca [] F0) [] σ' H' s'/\tn (i+1) s'.heap/\∀b∈fp,H' b=none:=λ{σ' H' s'} I'=>by
        refine⟨I'.pins_of λp hp=>absurd hp (by simp),T.keep _ _ _ st7 λb hb o e=>(I'.pin (b,o) (Uv _ (Uv _ (J5 hb e)))).1,λb hb=>?_⟩
        obtain⟨o,e,_⟩:=T.obj _ _ st7 b hb
        exact(I'.pin (b,o) (Uv _ (Uv _ (J5 hb e)))).2.1
       cases ok with
       |false =>
        rw[Uh Ud]at hl5 ⊢
        obtain⟨J1,J2,J3⟩:=again I9
        obtain⟨K1,K2⟩:=getD I9
        refine⟨n,Tl n,i+1,σ6,g9,μ9,σ8,H9,acc,accV,its,k,J1,J2,J3,K2,K1,va,(e5.trans e7).trans e9,R9,(da.mono e7).mono e9,hl5,by omega,by omega⟩
       |true =>
        rw[Uc rfl]at hl5 ⊢
        cases hm:me σ6 g9 with
        |raise _ _=>rw[hm]at hl5;cases hl5
        |stuck=>rw[hm]at hl5;cases hl5
        |ok y g10 =>
         rw[hm]at hl5
         have hl5:Y2 src f tc me n (i+1) σ6 g10 (acc++[y])=.ok ds g2:=hl5
         have el:=heB [] F0 _ s9 σ8 H9 (λvy H'=>∃μ10,Ext X.K μ9 H9 μ10 H'/\Rep X.K ca μ10 σ6 g10 σ8 H'/\Den X.K μ10 H' vy y) I9 (by
          have:Xb.K=X.K:=eK
          rw[this]
          refine⟨σ6,g9,μ9,R9,?_⟩
          rw[hm]
          exact λv H' μ' e' r' q'=>⟨μ',e',R9.go e' r',q'⟩)
         rw[eP,eW,eA,eE]at el
         refine thn (noX el) λuy s10 ⟨vy,H10,I10,ry,μ10,e10,R10,qy⟩=>?_
         obtain⟨K1,K2⟩:=getD I10
         obtain⟨J1,J2,J3⟩:=again I10
         have hlen:its.length=acc.length:=by rw[<-va.length,da.length]
         refine call_meets F.slot_list_append ⟨_,K1,rfl⟩ F.entry_list_append (F.args_list_append_2 _ _) (PySem.list_append s2.heap.objs.size its.toArray k uy (by rw[Uo,Re];have:SZ=1000000:=rfl;omega)) ⟨K1,?_⟩
         have up:=PySem.IsL.update K1 (·.push uy)
         rw[show its.toArray.push uy=(its++[uy]).toArray by simp]at up
         have upo:∀b o,b≠s2.heap.objs.size->s10.heap.get? b=some o->(s10.heap.update s2.heap.objs.size (Obj.mapSeq (·.push uy))).get? b=some o:=λb o hb e=>(U7 s10.heap (Obj.mapSeq (·.push uy)) (Ne.symm hb)).trans e
         obtain⟨d0,d1,d2,d3,d4,d5⟩:=FpD K2
         refine⟨n,Tl n,i+1,σ6,g10,μ10,σ8,H10,acc++[y],accV++[vy],its++[uy],_,J1.turned (t':=s10.toks) upo d0 d1 d3 d4 d5,T.keep _ _ _ J2 λb hb o e=>upo b o (λz=>DnF (z ▸ hb)) e,J3,K2,up,va.append (.cons ry .nil),
          ((e5.trans e7).trans e9).trans e10,R10,((da.mono e7).mono e9).mono e10 |>.append (.cons qy .nil),hl5,by rw[UB,Wv];omega,by omega⟩
 exact codeAny_compStart_list (loop _ rfl) (T.self _ 0 _ _ _ st4 (loop _ rfl))
end
section
variable{X:Cx}{ca:Nat->Addr}
theorem Qi8{K:Frag}{Φ:XS}{σ:L2.St}{Q:VK}{H:Hp}{μ:List Addr}{mi:MI}{no:Nat}{cap:List Nat}{f:MG}{tc:MT}{me:ME}{σ3:S3}{g:G}(p:Post K ca Φ σ Q H μ (ZO mi no cap f tc me σ3 g)):
  ∃src g1 ds g2,mi σ3 g=.ok src g1/\src.top<=SZ/\Y2 src f tc me (src.top+1) 0 (capt no cap σ3) g1 []=.ok ds g2/\Post K ca Φ σ Q H μ (.ok (.ref g2.length) (g2++[.lst ds])):=by
 unfold ZO at p
 cases hm:mi σ3 g with
 |raise _ _=>rw[hm]at p;exact p.elim
 |stuck=>rw[hm]at p;exact p.elim
 |ok src g1 =>
  rw[hm]at p
  dsimp only at p
  by_cases hz:src.top<=SZ
  ·rw[Uc hz]at p
   cases hL:Y2 src f tc me (src.top+1) 0 (capt no cap σ3) g1 []with
   |raise _ _=>rw[hL]at p;exact p.elim
   |stuck=>rw[hL]at p;exact p.elim
   |ok ds g2=>rw[hL]at p;exact⟨src,g1,ds,g2,rfl,hz,hL,p⟩
  ·rw[Uh hz]at p;exact p.elim
theorem JD{tg iter elt:Expr}{ifs:List Expr}{scope:Scope}{pos:Pos}{Nb:List Str}{no:Nat}{cap:List Nat}{mi:MI}{f:MG}{tc:MT}{me:ME}(B:BScope X scope Nb no cap)(hc:X.calm=true)(hi:PI3 ca X tg iter mi)(hb:∀cl C s3 H3 ex,PG3 ca (blk X scope cl C Nb s3 H3 ex) tg f/\PIf ca (blk X scope cl C Nb s3 H3 ex) ifs tc/\PE3 ca (blk X scope cl C Nb s3 H3 ex) elt me)(hs:∀x,foldedSetIterable iter X.env x=pure x:=by intro _;rfl):PE3 ca X (.ListComp elt [⟨tg,iter,ifs,0⟩] scope pos) (ZO mi no cap f tc me):=by
 intro pn Φ pins s σ H Q I' ⟨σ3,g,μ,R,p⟩
 obtain⟨src,g1,ds,g2,hm,hz,hL,p⟩:=Qi8 p
 have I:Inv (xat X ca pn F0) pins σ H s:=Inv.wish I' _
 suffices hh:wpAny (model X.prog X.w) X.A (eval (.ListComp elt [⟨tg,iter,ifs,0⟩] scope pos) X.env) (EP (xat X ca pn F0) pins σ Q) (λ_ _=>False) s from
  Tc hh (λu s' ⟨v,H',J,r,q⟩=>⟨v,H',Inv.wish J _,r,q⟩) λ_ _ z=>z.elim
 obtain⟨cl,hcl⟩:=QaH (cells:=X.env.cells) scope.names [] λy hy hf=>I.ok.has y.1 (B.free y hy hf)
 rw[eval_ListComp]
 refine wpAny_comprehension_free (env:=X.env) (use:=none) rfl hs (QaG hcl) B.kind B.loc ?_
 refine thn (noX (hi pn F0 pins s σ H (λJ H'=>∃μ',Ext X.K μ H μ' H'/\GRep X.K ca μ' H' g1/\Sim X.K ca μ' H' src J) I ⟨σ3,g,μ,R,?_⟩)) λv s1 h1=>thn (noX h1) λitv s2 h2=>?_
 ·rw[hm]
  exact λJ H' μ' e r sm=>⟨μ',e,r,sm⟩
 ·obtain⟨it,fp,tn,J,H2,e,I2,T,st2,f2,μ2,e2,r2,sim⟩:=h2
  subst e
  refine Qd6 (X:=X) (pn:=pn) (RR:=λacc C=>compPost (model X.prog X.w) X.A (λ_ _=>False) none (EP (xat X ca pn F0) pins σ Q) acc C) B hc hb hcl I2 T st2 f2 (R.go e2 r2) sim hz hL ?_
  intro D C s' H4 μ4 accV its k I4 nsC fC fD dc hD va hl e4 r4 da
  obtain⟨m,nsC⟩:=nsC
  refine⟨m,nsC,λh'' hs''=>?_⟩
  have I5:Inv (xat X ca pn F0) pins σ H4 {s' with heap:=h''}:=I4.turned (t':=s'.toks) (λb o hb e=>hs''.extBut b o hb e) fC.1 fC.2.1 fC.2.2.2.1 fC.2.2.2.2.1 fC.2.2.2.2.2
  have hD':=hs''.extBut _ _ dc hD
  have I6:=Inv.track (o:=.lst accV) I5 fD ⟨hl,its,k,va,hD'⟩
  refine⟨.ref D,_,I6,rfl,p _ _ (μ4++[D]) ((e2.trans e4).trans (QS fD.1)) (r4.push fD.1 ⟨accV,Qq,da.mono (QS fD.1)⟩) (.ref ?_)⟩
  rw[<-r4.len];simp
theorem QhG(i:Nat){x:Str}{py spos:Pos}{tg iter elt:Expr}{ifs:List Expr}{scope:Scope}{pos:Pos}{Nb:List Str}{no:Nat}{cap:List Nat}{mi:MI}{f:MG}{tc:MT}{me:ME}(hN:X.N.Nodup)(B:BScope X scope Nb no cap)(hc:X.calm=true)(hi:PI3 ca X tg iter mi)(hb:∀cl C s3 H3 ex,PG3 ca (blk X scope cl C Nb s3 H3 ex) tg f/\PIf ca (blk X scope cl C Nb s3 H3 ex) ifs tc/\PE3 ca (blk X scope cl C Nb s3 H3 ex) elt me)(hs:∀x,foldedSetIterable iter X.env x=pure x:=by intro _;rfl)(hn:X.N[i]?=some x:=by rfl)(hx:Loc X.env.scope x:=by first|exact Or.inl rfl|exact Or.inr rfl)(hf:X.fn x=true\/X.env.scope.names.lookup x=some .local:=by first|exact .inl rfl|exact .inr rfl)(hsw:swapsWith (.ListComp elt [⟨tg,iter,ifs,0⟩] scope pos) (some (.Name x py)) spos.line X.env=pure true:=by rfl):
  PS3 ca X (.Assign [.Name x py] (.ListComp elt [⟨tg,iter,ifs,0⟩] scope pos) spos) (mAsg (gSet i) (ZO mi no cap f tc me)):=by
 intro pn Φ pins s σ H En I' ⟨σ3,g,μ,R,p⟩
 have pp:∃src g1 ds g2,mi σ3 g=.ok src g1/\src.top<=SZ/\Y2 src f tc me (src.top+1) 0 (capt no cap σ3) g1 []=.ok ds g2/\PostS X.K ca Φ En H μ (.nx (σ3.set i (some (.ref g2.length))) (g2++[.lst ds])):=by
  unfold mAsg ZO gSet at p
  cases hm:mi σ3 g with
  |raise _ _=>rw[hm]at p;exact p.elim
  |stuck=>rw[hm]at p;exact p.elim
  |ok src g1 =>
   rw[hm]at p
   dsimp only at p
   by_cases hz:src.top<=SZ
   ·rw[Uc hz]at p
    cases hL:Y2 src f tc me (src.top+1) 0 (capt no cap σ3) g1 []with
    |raise _ _=>rw[hL]at p;exact p.elim
    |stuck=>rw[hL]at p;exact p.elim
    |ok ds g2=>rw[hL]at p;exact⟨src,g1,ds,g2,rfl,hz,hL,p⟩
   ·rw[Uh hz]at p;exact p.elim
 obtain⟨src,g1,ds,g2,hm,hz,hL,p⟩:=pp
 have I:Inv (xat X ca pn F0) pins σ H s:=Inv.wish I' _
 suffices hh:wpAny (model X.prog X.w) X.A (exec (.Assign [.Name x py] (.ListComp elt [⟨tg,iter,ifs,0⟩] scope pos) spos) X.env) (SP (xat X ca pn F0) pins En) (λ_ _=>False) s from
  Tc hh (λu s' z=>SP.unwish (X:=xat X ca pn Φ) (E:=(xat X ca pn F0).xe) z) λ_ _ z=>z.elim
 obtain⟨cl,hcl⟩:=QaH (cells:=X.env.cells) scope.names [] λy hy hf=>I.ok.has y.1 (B.free y hy hf)
 rw[exec_Assign_Name_used _ _ _ _ hsw]
 refine Ua (RW (Ua ?_))
 show wpAny _ _ (do let _ <-comprehension (.ListComp elt [⟨tg,iter,ifs,0⟩] scope pos) scope X.env _ (newList []) false (eval iter X.env) (some (assign (.Name x py) X.env))) _ _ s
 refine Ua (Tc (wpAny_comprehension_free (env:=X.env) (use:=some (assign (.Name x py) X.env)) (Q:=λ_ s'=>SP (xat X ca pn F0) pins En .next s') rfl hs (QaG hcl) B.kind B.loc ?_) (λ_ s' hq=>Uj (Uj hq)) λ_ _ e=>e)
 refine thn (noX (hi pn F0 pins s σ H (λJ H'=>∃μ',Ext X.K μ H μ' H'/\GRep X.K ca μ' H' g1/\Sim X.K ca μ' H' src J) I ⟨σ3,g,μ,R,?_⟩)) λv s1 h1=>thn (noX h1) λitv s2 h2=>?_
 ·rw[hm]
  exact λJ H' μ' e r sm=>⟨μ',e,r,sm⟩
 ·obtain⟨it,fp,tn,J,H2,e,I2,T,st2,f2,μ2,e2,r2,sim⟩:=h2
  subst e
  refine Qd6 (X:=X) (pn:=pn) (RR:=λacc C=>compPost (model X.prog X.w) X.A (λ_ _=>False) (some (assign (.Name x py) X.env)) (λ_ s'=>SP (xat X ca pn F0) pins En .next s') acc C) B hc hb hcl I2 T st2 f2 (R.go e2 r2) sim hz hL ?_
  intro D C s' H4 μ4 accV its k I4 nsC fC fD dc hD va hl e4 r4 da
  obtain⟨m,oC,es,ep,hoC,hdC,kk⟩:=nsC
  have I4':Inv (xat X ca pn F0) (pins++[(C,oC)]) σ H4 s':=I4.pins_of λq hq=>by
   rcases Uz.mp hq with z|z
   ·exact I4.pin q (Uv _ z)
   ·rw[Uf.mp z]
    exact⟨hoC,fC.1,fC.2.1,fC.2.2.1,λv w=>by rw[show oC.data=_ from hdC]at w;cases w⟩
  have fD':FpOk (xat X ca pn F0) (pins++[(C,oC)]) H4 D:=⟨fD.1,fD.2.1,fD.2.2.1,fD.2.2.2.1,fD.2.2.2.2.1,λq hq=>by
   rcases Uz.mp hq with z|z
   ·exact fD.2.2.2.2.2 q (UQ _ z)
   ·rcases Uz.mp z with z|z
    ·exact fD.2.2.2.2.2 q (Uv _ z)
    ·rw[Uf.mp z];exact Ne.symm dc⟩
  have I6:=Inv.track (o:=.lst accV) I4' fD' ⟨hl,its,k,va,hD⟩
  show wpAny (model X.prog X.w) X.A (assign (.Name x py) X.env (.ref D)) _ _ s'
  refine wpAny_assign_Name (QaA (X:=xat X ca pn F0) I6 hN hn hx (v:=.ref D) rfl (λs'' I7=>?_) hf)
  have pC:=I7.pin (C,oC) (Uv _ (Uv _ (Uf.mpr rfl)))
  refine⟨m,⟨oC,es,ep,pC.1,hdC,kk⟩,λh'' hs''=>?_⟩
  have I8:Inv (xat X ca pn F0) pins (σ.set i (some (.ref D))) (upd H4 D (.lst accV)) {s'' with heap:=h''} :=
   (I7.pins_of (pins':=pins) λq hq=>I7.pin q (Uv _ (UQ _ hq))).turned (t':=s''.toks) (λb o hb e=>hs''.extBut b o hb e) (by rw[Qs (Ne.symm dc)];exact fC.1) fC.2.1 fC.2.2.2.1 fC.2.2.2.2.1 fC.2.2.2.2.2
  refine⟨_,_,I8,p _ _ (μ4++[D]) ((e2.trans e4).trans (QS fD.1)) (Rep.set ((R.go (e2.trans e4) r4).go (QS fD.1) (r4.push (o:=.lst accV) (u:=.lst ds) fD.1 ⟨accV,Qq,da.mono (QS fD.1)⟩)) (.ref ?_) i)⟩
  rw[<-r4.len];simp
end
section
variable{X:Cx}{ca:Nat->Addr}{a b:Expr}{ma mb:ME}{pos:Pos}
theorem Qi9:OpR X (binaryOp .Add) (λx y H Q=>∃a b ys,x=.ref a/\y=.ref b/\SqT X.K H a []/\SqT X.K H b ys/\Q (.ref b) H):=by
 intro pins s σ H x y v u Q I rx ry h
 obtain⟨a,b,ys,rfl,rfl,ha,hb,q⟩:=h
 cases rx
 cases ry
 obtain⟨us,r1,p1,_⟩:=I.tuple ha
 obtain⟨ts,r2,p2,_⟩:=I.tuple hb
 cases r1
 obtain⟨⟨cls,dd,data,sl⟩,ho,hc,n,hd⟩:=id p1
 obtain⟨⟨cls2,dd2,data2,sl2⟩,ho2,hc2,n2,hd2⟩:=id p2
 simp only at hc hd hc2 hd2
 subst hc hd hc2 hd2
 exact concat_meets ⟨_,ho,rfl⟩ ⟨_,ho2,rfl⟩ Wd seq_tuple_add Rg Ra (T5 _ _)
   (tuple_addW0 a b _ _ n n2 dd dd2 sl sl2 (by simp)) ⟨ho,ho2,⟨.ref b,H,I,rfl,q⟩⟩
theorem Qja{K:Frag}:Y4 K ca (λx y H Q=>(((∃i j,x=.int i/\y=.int j/\Q (.int (i+j)) H)\/QmI K x y H Q)\/rCat x y H Q)\/(∃a b ys,x=.ref a/\y=.ref b/\SqT K H a []/\SqT K H b ys/\Q (.ref b) H)) pAdd:=by
 intro Φ σ H μ g x y dx dy Q r qx qy p
 unfold pAdd at p
 cases qx with
 |int i =>
  cases qy with
  |int j=>exact .inl (.inl (.inl ⟨i,j,rfl,rfl,p _ H μ .refl r (.int _)⟩))
  |_=>exact p.elim
 |@tup ax xs dsx hx hsx =>
  cases qy with
  |@tup ay ys dsy hy hsy =>
   dsimp only at p
   by_cases z:dsx.length+dsy.length<=SZ
   ·rw[Uc z]at p
    by_cases hx0:dsx=[]
    ·subst hx0
     cases hsx
     exact .inr ⟨ax,ay,ys,rfl,rfl,hx,hy,p _ H μ .refl r (.tup hy hsy)⟩
    ·refine .inl (.inl (.inr ⟨ax,ay,xs,ys,rfl,rfl,hx,hy,?_,by rw[hsx.length,hsy.length];exact Ux z JA,λe=>?_,λ_ t ht=>p _ _ μ (Q8 ht) (r.new ht) (.tup (.of Qq) ((hsx.append hsy).mono (Q8 ht)))⟩))
     ·rintro rfl
      cases hsx
      exact hx0 rfl
     ·subst e
      cases hsy
      rw[U6]at p
      exact p _ H μ .refl r (.tup hx hsx)
   ·rw[Uh z]at p;exact p.elim
  |_=>exact p.elim
 |@ref n an hn =>
  cases qy with
  |@ref m am hm =>
   dsimp only at p
   cases hg:g[n]? with
   |none=>rw[hg]at p;exact p.elim
   |some o =>
    cases hg2:g[m]? with
    |none=>rw[hg,hg2]at p;cases o <;> exact p.elim
    |some o2 =>
     rw[hg,hg2]at p
     obtain⟨a1,ha1,or1⟩:=r.addr hg
     obtain⟨a2,ha2,or2⟩:=r.addr hg2
     rw[hn]at ha1;cases ha1
     rw[hm]at ha2;cases ha2
     cases o with
     |lst xs =>
      cases o2 with
      |lst ys =>
       dsimp only at p
       obtain⟨vs,hH,q⟩:=or1
       obtain⟨ws,hH2,q2⟩:=or2
       by_cases z:xs.length+ys.length<=SZ
       ·rw[Uc z]at p
        refine .inl (.inr ⟨an,am,vs,ws,rfl,rfl,hH,hH2,by rw[q.length,q2.length];exact Ux z JA,λt ht=>p _ _ (μ++[t]) (QS ht) (r.push ht ⟨_,Qq,(q.append q2).mono (QS ht)⟩) (.ref ?_)⟩)
        rw[<-r.len];simp
       ·rw[Uh z]at p;exact p.elim
      |_=>exact p.elim
     |_=>cases o2 <;> exact p.elim
  |_=>exact p.elim
 |_=>cases qy <;> exact p.elim
theorem Qb0(ha:PE3 ca X a ma)(hb:PE3 ca X b mb):PE3 ca X (.BinOp a .Add b pos) (mOp2 pAdd ma mb) :=
 Qhu (λ_ _=>((op_add.or Qk6).or QmO).or Qi9) Qja ha hb
theorem QhH{K:Frag}{C:Int->Int->Prop}{h:Int->Int->V}{f:D->D->G->Res D}(hf:∀Φ σ i j g Q H μ,GRep K ca μ H g->Post K ca Φ σ Q H μ (f (.int i) (.int j) g)->C i j/\Q (h i j) H)(hn:∀Φ σ x y g Q H μ,Post K ca Φ σ Q H μ (f x y g)->∃i j,x=.int i/\y=.int j):Y4 K ca (rI C h) f:=by
 intro Φ σ H μ g x y dx dy Q r qx qy p
 obtain⟨i,j,rfl,rfl⟩:=hn Φ σ dx dy g Q H μ p
 cases qx
 cases qy
 obtain⟨c,q⟩:=hf Φ σ i j g Q H μ r p
 exact⟨i,j,rfl,rfl,c,q⟩
theorem QfJ{K:Frag}{h:Int->Int->V}{f:D->D->G->Res D}(hf:∀Φ σ i j g Q H μ,GRep K ca μ H g->Post K ca Φ σ Q H μ (f (.int i) (.int j) g)->Q (h i j) H)(hn:∀Φ σ x y g Q H μ,Post K ca Φ σ Q H μ (f x y g)->∃i j,x=.int i/\y=.int j):Y4 K ca (rI0 h) f:=by
 intro Φ σ H μ g x y dx dy Q r qx qy p
 obtain⟨i,j,rfl,rfl⟩:=hn Φ σ dx dy g Q H μ p
 cases qx
 cases qy
 exact⟨i,j,rfl,rfl,hf Φ σ i j g Q H μ r p⟩
theorem QbJ{K:Frag}{f:D->D->G->Res D}(h:∀x y g,(∃i j,x=D.int i/\y=D.int j)\/f x y g=.stuck)(Φ:XS)(σ:L2.St)(x y:D)(g:G)(Q:VK)(H:Hp)(μ:List Addr)(p:Post K ca Φ σ Q H μ (f x y g)):∃i j,x=.int i/\y=.int j:=by
 rcases h x y g with z|z
 ·exact z
 ·rw[z]at p;exact p.elim
theorem Qaq(ha:PE3 ca X a ma)(hb:PE3 ca X b mb):PE3 ca X (.BinOp a .Sub b pos) (mOp2 pSub ma mb) :=
 Qhu (λ_ _=>Qmv) (QfJ (λΦ σ i j g Q H μ r p=>p _ H μ .refl r (.int _)) (QbJ λx y g=>by cases x <;> cases y <;> first|exact .inl ⟨_,_,rfl,rfl⟩|exact .inr rfl)) ha hb
theorem QaI(ha:PE3 ca X a ma)(hb:PE3 ca X b mb):PE3 ca X (.BinOp a .FloorDiv b pos) (mOp2 Z8 ma mb) :=
 Qhu (λ_ _=>QkX) (QhH (λΦ σ i j g Q H μ r p=>by
  unfold Z8 at p
  by_cases z:0<j/\j<1073741824
  ·dsimp only at p;rw[Uc z]at p;exact⟨z,p _ H μ .refl r (.int _)⟩
  ·dsimp only at p;rw[Uh z]at p;exact p.elim) (QbJ λx y g=>by cases x <;> cases y <;> first|exact .inl ⟨_,_,rfl,rfl⟩|exact .inr rfl)) ha hb
theorem Jv(ha:PE3 ca X a ma)(hb:PE3 ca X b mb):PE3 ca X (.BinOp a .Mod b pos) (mOp2 pMod ma mb) :=
 Qhu (λ_ _=>Qmx) (QhH (λΦ σ i j g Q H μ r p=>by
  unfold pMod at p
  by_cases z:0<j
  ·dsimp only at p;rw[Uc z]at p;exact⟨z,p _ H μ .refl r (.int _)⟩
  ·dsimp only at p;rw[Uh z]at p;exact p.elim) (QbJ λx y g=>by cases x <;> cases y <;> first|exact .inl ⟨_,_,rfl,rfl⟩|exact .inr rfl)) ha hb
theorem Qjb(ha:PE3 ca X a ma)(hb:PE3 ca X b mb):PE3 ca X (.BinOp a .Mult b pos) (mOp2 pMul ma mb) :=
 Qhu (λ_ _=>Qmw) (λΦ σ H μ g x y dx dy Q r qx qy p=>by
  unfold pMul at p
  cases qx with
  |int i =>
   cases qy with
   |int j =>
    dsimp only at p
    by_cases z:cM i\/cM j
    ·rw[Uc z]at p;exact⟨i,j,rfl,rfl,z,p _ H μ .refl r (.int _)⟩
    ·rw[Uh z]at p;exact p.elim
   |_=>exact p.elim
  |_=>cases qy <;> exact p.elim) ha hb
theorem Qgu(ha:PE3 ca X a ma):PE3 ca X (.UnaryOp .USub a pos) (mOp1 pNeg ma) :=
 r_un (λ_ _=>Qmy) (λΦ σ H μ g x dx Q r qx p=>by
  cases qx with
  |int i=>exact⟨i,rfl,p _ H μ .refl r (.int _)⟩
  |_=>exact p.elim) ha
theorem Yp{K:Frag}(r:Int->Int->Bool):Y4 K ca (rI0 λi j=>.bl (r i j)) (pCmp r) :=
 QfJ (λΦ σ i j g Q H μ r p=>p _ H μ .refl r (.bl _)) (QbJ λx y g=>by cases x <;> cases y <;> first|exact .inl ⟨_,_,rfl,rfl⟩|exact .inr rfl)
theorem r_le(ha:PE3 ca X a ma)(hb:PE3 ca X b mb):PE3 ca X (.Compare a [.LtE] [b] pos) (mOp2 pLe ma mb):=Qd0 (λ_ _=>QkY) (Yp _) ha hb (YA b)
theorem r_gt(ha:PE3 ca X a ma)(hb:PE3 ca X b mb):PE3 ca X (.Compare a [.Gt] [b] pos) (mOp2 pGt ma mb):=Qd0 (λ_ _=>QmA) (Yp _) ha hb (YA b)
theorem r_ge(ha:PE3 ca X a ma)(hb:PE3 ca X b mb):PE3 ca X (.Compare a [.GtE] [b] pos) (mOp2 pGe ma mb):=Qd0 (λ_ _=>QmB) (Yp _) ha hb (YA b)
theorem Qjc(ha:PE3 ca X a ma)(hb:PE3 ca X b mb):PT3 ca X (.Compare a [.Lt] [b] pos) (Qf (mOp2 pLt ma mb)):=Jq (λ_ _=>Qmz) (Yp _) ha hb (YA b)
theorem Qle(ha:PE3 ca X a ma)(hb:PE3 ca X b mb):PT3 ca X (.Compare a [.LtE] [b] pos) (Qf (mOp2 pLe ma mb)):=Jq (λ_ _=>QkY) (Yp _) ha hb (YA b)
theorem Qjd(ha:PE3 ca X a ma)(hb:PE3 ca X b mb):PT3 ca X (.Compare a [.Gt] [b] pos) (Qf (mOp2 pGt ma mb)):=Jq (λ_ _=>QmA) (Yp _) ha hb (YA b)
theorem QmZ(ha:PE3 ca X a ma)(hb:PE3 ca X b mb):PT3 ca X (.Compare a [.GtE] [b] pos) (Qf (mOp2 pGe ma mb)):=Jq (λ_ _=>QmB) (Yp _) ha hb (YA b)
end
section
variable{X:Cx}{ca:Nat->Addr}{pins:List (Addr×Obj)}{σ:L2.St}{H:Hp}{s:Shared}{μ:List Addr}{g:G}
theorem Qc7{eq:D->D->Option Bool}:∀(xs ys:List D)(b:Bool),eqGs eq xs ys=some b->∃e:Nat->Bool,(∀(j:Nat)(x y:D),xs[j]?=some x->ys[j]?=some y->eq x y=some (e j)) /\
  b=((List.range (min xs.length ys.length)).all e && (xs.length == ys.length))
 |[],[],b,h=>by cases h;exact⟨λ_=>true,λj x y h=>by simp at h,by simp⟩
 |[],_::ys,b,h=>by cases h;exact⟨λ_=>true,λj x y h=>by simp at h,by simp⟩
 |_::xs,[],b,h=>by cases h;exact⟨λ_=>true,λj x y _ h=>by simp at h,by simp⟩
 |x::xs,y::ys,b,h=>by
  unfold eqGs at h
  cases h1:eq x y with
  |none=>rw[h1]at h;cases h
  |some c =>
   cases h2:eqGs eq xs ys with
   |none=>rw[h1,h2]at h;cases h
   |some d =>
    rw[h1,h2]at h
    cases h
    obtain⟨e,e1,e2⟩:=Qc7 xs ys d h2
    refine⟨λj=>match j with|0=>c|j+1=>e j,λj x' y' hx hy=>?_,?_⟩
    ·cases j with
     |zero =>
      simp at hx hy
      subst hx hy
      exact h1
     |succ j =>
      simp at hx hy
      exact e1 j x' y' hx hy
    ·rw[UN,UN,Nat.add_min_add_right,List.range_succ_eq_map,T6,List.all_map,e2]
     simp[Function.comp_def,Bool.and_assoc]
theorem QfK{A:Around}{eq:D->D->Option Bool}{vs ws:List V}{ds es:List D}{us ts:List Value}{e:Nat->Bool}(qv:Dens X.K μ H vs ds)(qw:Dens X.K μ H ws es)(rv:Vals vs us)(rw':Vals ws ts)(he:∀(j:Nat) (x y:D),ds[j]?=some x->es[j]?=some y->eq x y=some (e j))(ih:∀{v w:V} {d d':D} {u t:Value} {b:Bool},Den X.K μ H v d->Den X.K μ H w d'->RelV v u->RelV w t->eq d d'=some b->SeqAt.EqAt A s u t b):
  ∀(j:Nat)(h1:j<us.toArray.size)(h2:j<ts.toArray.size),SeqAt.EqAt A s us.toArray[j] ts.toArray[j] (e j):=by
 intro j h1 h2
 have l1:j<us.length:=by simpa using h1
 have l2:j<ts.length:=by simpa using h2
 have l3:j<vs.length:=by rw[rv.length];exact l1
 have l4:j<ws.length:=by rw[rw'.length];exact l2
 obtain⟨x,hx,qx⟩:=qv.getV (i:=j) (v:=vs[j]) (by simp[l3])
 obtain⟨y,hy,qy⟩:=qw.getV (i:=j) (v:=ws[j]) (by simp[l4])
 obtain⟨u,hu,ru⟩:=rv.get (i:=j) (x:=vs[j]) (by simp[l3])
 obtain⟨t,ht,rt⟩:=rw'.get (i:=j) (x:=ws[j]) (by simp[l4])
 have eu:us.toArray[j]=u:=by
  have:us[j]?=some us[j]:=by simp[l1]
  rw[this]at hu;simpa using hu
 have et:ts.toArray[j]=t:=by
  have:ts[j]?=some ts[j]:=by simp[l2]
  rw[this]at ht;simpa using ht
 rw[eu,et]
 exact ih qx qy ru rt (he j x y hx hy)
theorem QhI{A:Around}{eq:D->D->Option Bool}{a c:Addr}{vs ws:List V}{ds es:List D}{b:Bool}(hu:A.units<cLine)(I:Inv X pins σ H s)(h1:SqT X.K H a vs)(q1:Dens X.K μ H vs ds)(h2:SqT X.K H c ws)(q2:Dens X.K μ H ws es)(ih:∀{v w:V} {d d':D} {u t:Value} {b:Bool},Den X.K μ H v d->Den X.K μ H w d'->RelV v u->RelV w t->eq d d'=some b->SeqAt.EqAt A.in1 s u t b)(h:eqGs eq ds es=some b):SeqAt.RcAt A s (.ref a) (.ref c) b:=by
 obtain⟨us,r1,p1,_⟩:=I.tuple h1
 obtain⟨ts,r2,p2,_⟩:=I.tuple h2
 obtain⟨e,e1,e2⟩:=Qc7 ds es b h
 have q:=SeqAt.RcAt.tuples (A:=A) p1 p2 hu (e:=e) (QfK q1 q2 r1 r2 e1 ih)
 have l1:us.toArray.size=ds.length:=by rw[Uo,<-r1.length,q1.length]
 have l2:ts.toArray.size=es.length:=by rw[Uo,<-r2.length,q2.length]
 rw[l1,l2]at q
 rw[e2]
 exact q
theorem Qlf{A:Around}{eq:D->D->Option Bool}{a c:Addr}{vs ws:List V}{ds es:List D}{b:Bool}(hu:A.units<cLine)(I:Inv X pins σ H s)(h1:SqL X.K H a vs)(q1:Dens X.K μ H vs ds)(h2:SqL X.K H c ws)(q2:Dens X.K μ H ws es)(ih:∀{v w:V} {d d':D} {u t:Value} {b:Bool},Den X.K μ H v d->Den X.K μ H w d'->RelV v u->RelV w t->eq d d'=some b->SeqAt.EqAt A.in1 s u t b)(h:(if ds.length=es.length then eqGs eq ds es else some false)=some b):SeqAt.RcAt A s (.ref a) (.ref c) b:=by
 obtain⟨us,r1,p1,_⟩:=I.list h1
 obtain⟨ts,r2,p2,_⟩:=I.list h2
 have l1:us.toArray.size=ds.length:=by rw[Uo,<-r1.length,q1.length]
 have l2:ts.toArray.size=es.length:=by rw[Uo,<-r2.length,q2.length]
 by_cases hl:ds.length=es.length
 ·rw[Uc hl]at h
  obtain⟨e,e1,e2⟩:=Qc7 ds es b h
  have q:=SeqAt.RcAt.lists (A:=A) p1.isList p2.isList (by rw[l1,l2,hl]) hu (e:=e) (QfK q1 q2 r1 r2 e1 ih)
  rw[l1]at q
  rw[e2,<-hl,Nat.min_self]
  simpa using q
 ·rw[Uh hl]at h
  cases h
  exact SeqAt.RcAt.lists_lengths p1.isList p2.isList (by rw[l1,l2];simpa using hl) hu
theorem Qb1{K:Frag}{μ:List Addr}{H:Hp}:∀{vs:List V}{ds:List D}{ns:List Int},Dens K μ H vs ds->Qbv ds=some ns->vs=ns.map V.int
 |_,_,ns,.nil,h=>by cases h;rfl
 |_,_,ns,.cons (ds:=ds) h1 h2,h=>by
  cases h1 with
  |int i =>
   unfold Qbv at h
   cases hr:Qbv ds with
   |none=>rw[hr]at h;cases h
   |some ms=>rw[hr]at h;cases h;rw[UH,Qb1 h2 hr]
  |_=>cases h
theorem QfL(I:Inv X pins σ H s):∀(f:Nat){v:V}{d e:D}{b:Bool},Den X.K μ H v d->Den X.K μ H v e->eqI f d e=some b->b=true
 |0,v,d,e,b,h1,h2,h=>by
  cases h1 with
  |int i=>cases h2;cases h;simp
  |_=>cases h
 |f+1,v,d,e,b,h1,h2,h=>by
  cases h1 with
  |int i=>cases h2;cases h;simp
  |tup t1 q1 =>
   cases h2 with
   |tup t2 q2 =>
    have ev:=I.tuple_inj t1 t2
    subst ev
    have h:eqGs (eqI f) _ _=some b:=h
    have key:∀{vs:List V}{ds es:List D}{b:Bool},Dens X.K μ H vs ds->Dens X.K μ H vs es->eqGs (eqI f) ds es=some b->b=true:=by
     intro vs
     induction vs with
     |nil=>intro ds es b a1 a2 a3;cases a1;cases a2;cases a3;rfl
     |cons w ws ih =>
      intro ds es b a1 a2 a3
      cases a1 with
      |cons c1 c2=>cases a2 with
       |cons c3 c4 =>
        rename_i x xs y ys
        unfold eqGs at a3
        cases h1:eqI f x y with
        |none=>rw[h1]at a3;cases a3
        |some b1 =>
         cases h2:eqGs (eqI f) xs ys with
         |none=>rw[h1,h2]at a3;cases a3
         |some b2 =>
          rw[h1,h2]at a3
          cases a3
          rw[QfL I f c1 c3 h1,ih c2 c4 h2];rfl
    exact key q1 q2 h
   |_=>cases h
  |_=>cases h2 <;> cases h
theorem Qkr(I:Inv X pins σ H s):∀(f:Nat){A:Around}{v w:V}{d e:D}{u t:Value}{b:Bool},A.units+f<cLine->Den X.K μ H v d->Den X.K μ H w e->RelV v u->RelV w t->eqI f d e=some b->SeqAt.EqAt A s u t b
 |0,A,v,w,d,e,u,t,b,hu,qv,qw,rv,rw',h=>by
  cases qv with
  |int i =>
   cases qw with
   |int j=>obtain⟨y,rfl⟩:=rv;obtain⟨z,rfl⟩:=rw';cases h;exact RM _ _ _ _
   |_=>cases h
  |_=>cases h
 |f+1,A,v,w,d,e,u,t,b,hu,qv,qw,rv,rw',h=>by
  cases qv with
  |int i =>
   cases qw with
   |int j=>obtain⟨y,rfl⟩:=rv;obtain⟨z,rfl⟩:=rw';cases h;exact RM _ _ _ _
   |_=>cases h
  |tup h1 q1 =>
   cases qw with
   |tup h2 q2 =>
    cases rv;cases rw'
    rename_i a1 vs ds a2 ws es
    by_cases ea:a1=a2
    ·subst ea
     rw[QfL I (f+1) (.tup h1 q1) (.tup h2 q2) h]
     exact SeqAt.EqAt.same _
    ·exact SeqAt.EqAt.of_refs ea (QhI (by omega) I h1 q1 h2 q2 (λa1 a2 a3 a4 a5=>Qkr I f (by show A.units+1+f<cLine;omega) a1 a2 a3 a4 a5) h)
   |_=>cases h
  |_=>cases qw <;> cases h
noncomputable def rEqI(K:Frag):R2:=λx y H Q=>∃(μ:List Addr)(a c:Addr)(vs ws:List V)(ds es:List D)(b:Bool),x=.ref a/\y=.ref c/\Dens K μ H vs ds/\Dens K μ H ws es/\((SqT K H a vs/\SqT K H c ws/\eqGs (eqI 2) ds es=some b)\/(SqL K H a vs/\SqL K H c ws/\(if ds.length=es.length then eqGs (eqI 2) ds es else some false)=some b))/\Q (.bl b) H
theorem Qks(hu:X.A.units+16<cLine):OpR X (compareOp .Eq) (rEqI X.K):=by
 intro pins s σ H x y v u Q I rx ry h
 obtain⟨μ,a,c,vs,ws,ds,es,b,rfl,rfl,q1,q2,h,q⟩:=h
 cases rx;cases ry
 have ih:∀{v w:V}{d d':D}{u t:Value}{b:Bool},Den X.K μ H v d->Den X.K μ H w d'->RelV v u->RelV w t->eqI 2 d d'=some b->SeqAt.EqAt X.A.in1 s u t b:=λa1 a2 a3 a4 a5=>Qkr I 2 (by show X.A.units+1+2<cLine;omega) a1 a2 a3 a4 a5
 rcases h with⟨h1,h2,h3⟩|⟨h1,h2,h3⟩
 ·exact(QhI (A:=X.A) (by omega) I h1 q1 h2 q2 ih h3) _ _ _ _ ⟨.bl b,H,I,rfl,q⟩
 ·exact(Qlf (A:=X.A) (by omega) I h1 q1 h2 q2 ih h3) _ _ _ _ ⟨.bl b,H,I,rfl,q⟩
theorem QhJ{K:Frag}:Y4 K ca (λx y H Q=>rEq x y H Q\/rEqI K x y H Q) pEq:=by
 intro Φ σ H μ g x y dx dy Q r qx qy p
 unfold pEq eqT at p
 cases qx with
 |int i =>
  cases qy with
  |int j=>exact .inl ⟨rfl,by rw[QcY];exact p _ H μ .refl r (.bl _)⟩
  |_=>exact p.elim
 |str i =>
  cases qy with
  |str j=>exact .inl ⟨rfl,by rw[QcZ];exact p _ H μ .refl r (.bl _)⟩
  |_=>exact p.elim
 |tup h1 q1 =>
  cases qy with
  |tup h2 q2 =>
   rename_i a vs ds c ws es
   dsimp only at p
   cases e:eqGs (eqI 2) ds es with
   |none=>rw[e]at p;exact p.elim
   |some b=>rw[e]at p;exact .inr ⟨μ,a,c,vs,ws,ds,es,b,rfl,rfl,q1,q2,.inl ⟨h1,h2,e⟩,p _ H μ .refl r (.bl _)⟩
  |_=>exact p.elim
 |@ref n a hn =>
  cases qy with
  |@ref m c hm =>
   dsimp only at p
   cases hg:g[n]? with
   |none=>rw[hg]at p;exact p.elim
   |some o1 =>
    cases hg2:g[m]? with
    |none=>rw[hg,hg2]at p;cases o1 <;> exact p.elim
    |some o2 =>
     rw[hg,hg2]at p
     obtain⟨b1,hb1,ob1⟩:=r.addr hg
     obtain⟨b2,hb2,ob2⟩:=r.addr hg2
     rw[hn]at hb1;cases hb1
     rw[hm]at hb2;cases hb2
     cases o1 with
     |lst xs =>
      cases o2 with
      |lst ys =>
       obtain⟨vs,hH1,q1⟩:=ob1
       obtain⟨ws,hH2,q2⟩:=ob2
       dsimp only at p
       cases e:(if xs.length=ys.length then eqGs (eqI 2) xs ys else some false) with
       |none=>rw[e]at p;exact p.elim
       |some b=>rw[e]at p;exact .inr ⟨μ,a,c,vs,ws,xs,ys,b,rfl,rfl,q1,q2,.inr ⟨.of hH1,.of hH2,e⟩,p _ H μ .refl r (.bl _)⟩
      |_=>exact p.elim
     |_=>cases o2 <;> exact p.elim
  |_=>exact p.elim
 |_=>cases qy <;> exact p.elim
theorem Qlg{K:Frag}:Y4 K ca rNe pNe:=by
 intro Φ σ H μ g x y dx dy Q r qx qy p
 unfold pNe neT at p
 cases qx with
 |int i =>
  cases qy with
  |int j=>exact⟨rfl,by rw[QcY];exact p _ H μ .refl r (.bl _)⟩
  |_=>exact p.elim
 |str i =>
  cases qy with
  |str j=>exact⟨rfl,by rw[QcZ];exact p _ H μ .refl r (.bl _)⟩
  |_=>exact p.elim
 |bl i =>
  cases qy with
  |bl j=>exact⟨rfl,by rw[Qhb];exact p _ H μ .refl r (.bl _)⟩
  |_=>exact p.elim
 |_=>cases qy <;> exact p.elim
end
section
variable{X:Cx}{ca:Nat->Addr}{a b e:Expr}{ma mb me:ME}{pos p:Pos}{k:Nat}
theorem hu16{A:Around}(hr:Room k A):A.units+16<cLine:=by have:=hr.units;omega
theorem r_eq(hr:Room k X.A)(ha:PE3 ca X a ma)(hb:PE3 ca X b mb):PE3 ca X (.Compare a [.Eq] [b] pos) (mOp2 pEq ma mb):=Qd0 (λpn Φ=>op_eq.or (Qks (X:=xat X ca pn Φ) (hu16 hr))) QhJ ha hb (YA b)
theorem QaJ(hr:Room k X.A)(ha:PE3 ca X a ma)(hb:PE3 ca X b mb):PT3 ca X (.Compare a [.Eq] [b] pos) (Qf (mOp2 pEq ma mb)):=Jq (λpn Φ=>op_eq.or (Qks (X:=xat X ca pn Φ) (hu16 hr))) QhJ ha hb (YA b)
theorem QcE(_:Room k X.A)(ha:PE3 ca X a ma)(hb:PE3 ca X b mb):PT3 ca X (.Compare a [.NotEq] [b] pos) (Qf (mOp2 pNe ma mb)):=Jq (λ_ _=>QnS) Qlg ha hb (YA b)
theorem QfM{K:Frag}{μ:List Addr}{H:Hp}{x:V}{d:D}(q:Den K μ H x d):decide (x=.non)=isNon d:=by cases q <;> simp[isNon]
theorem QhK{K:Frag}:Y4 K ca (λx y H Q=>y=.non/\Q (.bl (decide (x=.non))) H) pIs:=by
 intro Φ σ H μ g x y dx dy Q r qx qy p
 cases qy with
 |non=>exact⟨rfl,p _ H μ .refl r (by rw[QfM qx];exact .bl _)⟩
 |_=>exact p.elim
theorem QcR{K:Frag}:Y4 K ca (λx y H Q=>y=.non/\Q (.bl (!decide (x=.non))) H) YB:=by
 intro Φ σ H μ g x y dx dy Q r qx qy p
 cases qy with
 |non=>exact⟨rfl,p _ H μ .refl r (by rw[QfM qx];exact .bl _)⟩
 |_=>exact p.elim
theorem r_is(ha:PE3 ca X a ma)(hb:PE3 ca X b mb):PE3 ca X (.Compare a [.Is] [b] pos) (mOp2 pIs ma mb):=Qd0 (λ_ _=>Qkg) QhK ha hb (YA b)
theorem Qgv(ha:PE3 ca X a ma)(hb:PE3 ca X b mb):PT3 ca X (.Compare a [.Is] [b] pos) (Qf (mOp2 pIs ma mb)):=Jq (λ_ _=>Qkg) QhK ha hb (YA b)
theorem QhL(ha:PE3 ca X a ma)(hb:PE3 ca X b mb):PE3 ca X (.Compare a [.IsNot] [b] pos) (mOp2 YB ma mb):=Qd0 (λ_ _=>Qhd) QcR ha hb (YA b)
theorem Qc8(ha:PE3 ca X a ma)(hb:PE3 ca X b mb):PT3 ca X (.Compare a [.IsNot] [b] pos) (Qf (mOp2 YB ma mb)):=Jq (λ_ _=>Qhd) QcR ha hb (YA b)
theorem Qc9{K:Frag}{μ:List Addr}{H:Hp}{vs:List V}{ds:List D}{i:Int}{d:D}(q:Dens K μ H vs ds)(h:atD ds i=some d):∃v,atI vs i=some v/\Den K μ H v d:=by
 unfold atD at h
 cases hj:ixD ds.length i with
 |none=>rw[hj]at h;cases h
 |some j =>
  rw[hj]at h
  obtain⟨v,h1,h2⟩:=q.get (show ds[j]?=some d from h)
  refine⟨v,?_,h2⟩
  unfold atI
  rw[q.length,show ixN ds.length i=some j from hj]
  exact h1
theorem Qlh{K:Frag}:Y4 K ca (rIx K) pIx:=by
 intro Φ σ H μ g x y dx dy Q r qx qy p
 unfold pIx at p
 cases qx with
 |tup ht hs =>
  cases qy with
  |int i =>
   dsimp only at p
   rename_i a vs ds
   cases h:atD ds i with
   |none=>rw[h]at p;exact p.elim
   |some d =>
    rw[h]at p
    obtain⟨v,h1,h2⟩:=Qc9 hs h
    exact .inr (.inl ⟨a,vs,i,v,rfl,rfl,ht,h1,p v H μ .refl r h2⟩)
  |_=>exact p.elim
 |fl ht hs =>
  cases qy with
  |int i =>
   dsimp only at p
   rename_i a vs ds
   cases h:atD ds i with
   |none=>rw[h]at p;exact p.elim
   |some d =>
    rw[h]at p
    obtain⟨v,h1,h2⟩:=Qc9 hs h
    exact .inl ⟨a,vs,i,v,rfl,rfl,ht.sq,h1,p v H μ .refl r h2⟩
  |_=>exact p.elim
 |@ref n a hn =>
  cases qy with
  |int i =>
   dsimp only at p
   cases hg:g[n]? with
   |none=>rw[hg]at p;exact p.elim
   |some o =>
    rw[hg]at p
    obtain⟨a',ha',ob⟩:=r.addr hg
    rw[hn]at ha';cases ha'
    cases o with
    |lst ds =>
     obtain⟨vs,hH,hs⟩:=ob
     dsimp only at p
     cases h:atD ds i with
     |none=>rw[h]at p;exact p.elim
     |some d =>
      rw[h]at p
      obtain⟨v,h1,h2⟩:=Qc9 hs h
      exact .inl ⟨a,vs,i,v,rfl,rfl,.of hH,h1,p v H μ .refl r h2⟩
    |_=>exact p.elim
  |_=>exact p.elim
 |str s =>
  cases qy with
  |int i =>
   dsimp only at p
   by_cases z:s.length<=SZ
   ·rw[Uc z]at p
    cases h:atD s.cps.toList i with
    |none=>rw[h]at p;exact p.elim
    |some c =>
     rw[h]at p
     exact .inr (.inr ⟨s,i,c,rfl,rfl,Ux z JA,h,p _ H μ .refl r (.str _)⟩)
   ·rw[Uh z]at p;exact p.elim
  |_=>exact p.elim
 |_=>cases qy <;> exact p.elim
theorem Qi(ha:PE3 ca X a ma)(hb:PE3 ca X b mb)(hs:QbU b:=by exact λ_ _=>rfl):PE3 ca X (.Subscript a b pos) (mOp2 pIx ma mb):=r_ix (λ_ _=>QmK) Qlh ha hb hs
theorem QhM{x:Str}{id:String}{r:List V->Hp->VK->Prop}{f:D->G->Res D}(hc:∀pn Φ,CallR (xat X ca pn Φ) (.builtin id) r)(hm:X.mg x=none)(hv:bootBuiltins x=some (.builtin id))(hp:∀(Φ:XS) (σ:L2.St) (H:Hp) (μ:List Addr) (g:G) (y:V) (d:D) (Q:VK),GRep X.K ca μ H g->Den X.K μ H y d->Post X.K ca Φ σ Q H μ (f d g)->r [y] H Q)(he:PE3 ca X e me)(hg:Gl X x)(hn:x ≠ "__name__")(hdb:(x == ("__debug__" : Str))=false)(hs:starEach [e] X.env=[(false,eval e X.env)])(hpl:(backTo pos (starEach [] X.env)).any (·.1)=false):PE3 ca X (.Call (.Name x p) [e] [] pos) (mOp1 f me) :=
 λpn Φ=>Zf (Qc1 (X:=xat X ca pn Φ) (hc pn Φ) hg hm hv (ZR he Qp hs pn Φ) hn hdb hs hpl) λσ H Q hQ=>by
  obtain⟨σ3,g,μ,R,q⟩:=hQ
  refine⟨σ3,g,μ,R,?_⟩
  unfold mOp1 at q
  unfold Qb mNil
  cases hm:me σ3 g with
  |raise _ _=>rw[hm]at q;exact q
  |stuck=>rw[hm]at q;exact q.elim
  |ok d g1 =>
   rw[hm,Res.bind_ok]at q
   rw[Res.bind_ok,Res.bind_ok]
   intro vs H1 μ1 e1 r1 q1
   cases q1 with
   |cons h1 h2 =>
    cases h2
    exact hp Φ σ H1 μ1 g1 _ d Q r1 h1 (q.go e1)
end
section
variable{X:Cx}{ca:Nat->Addr}{a b e o:Expr}{ma mb me mo:ME}{pos p apos:Pos}{k:Nat}
theorem r_ty{x:Str}{T:String}{r:List V->Hp->VK->Prop}{f:D->G->Res D}(hc:∀pn Φ,CallR (xat X ca pn Φ) (.type T) r)(hm:X.mg x=none)(hv:bootBuiltins x=some (.type T))(hp:∀(Φ:XS) (σ:L2.St) (H:Hp) (μ:List Addr) (g:G) (y:V) (d:D) (Q:VK),GRep X.K ca μ H g->Den X.K μ H y d->Post X.K ca Φ σ Q H μ (f d g)->r [y] H Q)(he:PE3 ca X e me)(hg:Gl X x)(hn:x ≠ "__name__")(hdb:(x == ("__debug__" : Str))=false)(hs:starEach [e] X.env=[(false,eval e X.env)])(hpl:(backTo pos (starEach [] X.env)).any (·.1)=false):PE3 ca X (.Call (.Name x p) [e] [] pos) (mOp1 f me) :=
 λpn Φ=>Zf (Qhj (X:=xat X ca pn Φ) (hc pn Φ) hg hm hv (ZR he Qp hs pn Φ) hn hdb hs hpl) λσ H Q hQ=>by
  obtain⟨σ3,g,μ,R,q⟩:=hQ
  refine⟨σ3,g,μ,R,?_⟩
  unfold mOp1 at q
  unfold Qb mNil
  cases hm:me σ3 g with
  |raise _ _=>rw[hm]at q;exact q
  |stuck=>rw[hm]at q;exact q.elim
  |ok d g1 =>
   rw[hm,Res.bind_ok]at q
   rw[Res.bind_ok,Res.bind_ok]
   intro vs H1 μ1 e1 r1 q1
   cases q1 with
   |cons h1 h2 =>
    cases h2
    exact hp Φ σ H1 μ1 g1 _ d Q r1 h1 (q.go e1)
theorem Qah(hm:X.mg "len" = none)(he:PE3 ca X e me)(hg:Gl X "len":=by rfl)(hs:starEach [e] X.env=[(false,eval e X.env)]:=by rfl)(hpl:(backTo pos (starEach [] X.env)).any (·.1)=false:=by rfl):
  PE3 ca X (.Call (.Name "len" p) [e] [] pos) (mOp1 pLen me) :=
 QhM (r:=λxs H Q=>∃p ys,xs=[V.ref p]/\(SqL X.K H p ys\/SqT X.K H p ys)/\Q (V.int (ys.length:Int)) H) (λ_ _=>QdV) hm boot_len (λΦ σ H μ g y d Q r q pp=>by
  unfold pLen at pp
  cases q with
  |@tup t vs ds ht hs=>exact⟨t,vs,rfl,.inr ht,pp _ H μ .refl r (by rw[hs.length];exact .int _)⟩
  |@fl t vs ds ht hs=>exact⟨t,vs,rfl,.inl ht.sq,pp _ H μ .refl r (by rw[hs.length];exact .int _)⟩
  |@ref n t hn =>
   dsimp only at pp
   cases hgn:g[n]? with
   |none=>rw[hgn]at pp;exact pp.elim
   |some ob =>
    rw[hgn]at pp
    obtain⟨t',ht',orp⟩:=r.addr hgn
    rw[hn]at ht';cases ht'
    cases ob with
    |lst ds=>obtain⟨vs,hH,q⟩:=orp;exact⟨t,vs,rfl,.inl (.of hH),pp _ H μ .refl r (by rw[q.length];exact .int _)⟩
    |_=>exact pp.elim
  |_=>exact pp.elim) he hg (by decide) (by decide) hs hpl
theorem Qda(hm:X.mg "tuple" = none)(he:PE3 ca X e me)(hg:Gl X "tuple":=by rfl)(hs:starEach [e] X.env=[(false,eval e X.env)]:=by rfl)(hpl:(backTo pos (starEach [] X.env)).any (·.1)=false:=by rfl):
  PE3 ca X (.Call (.Name "tuple" p) [e] [] pos) (mOp1 Ym me) :=
 r_ty (r:=λxs H Q=>∃p ys,xs=[V.ref p]/\((SqL X.K H p ys/\∀l,H l=none->Q (.ref l) (upd H l (.tup ys)))\/(SqT X.K H p ys/\Q (.ref p) H))) (λ_ _=>Qc4) hm boot_tuple (λΦ σ H μ g y d Q r q pp=>by
  unfold Ym at pp
  cases q with
  |@tup t vs ds ht hs=>exact⟨t,vs,rfl,.inr ⟨ht,pp _ H μ .refl r (.tup ht hs)⟩⟩
  |@fl t vs ds ht hs=>exact⟨t,vs,rfl,.inl ⟨ht.sq,λl hl=>pp _ _ μ (Q8 hl) (r.new hl) (.tup (.of Qq) (hs.mono (Q8 hl)))⟩⟩
  |@ref n t hn =>
   dsimp only at pp
   cases hgn:g[n]? with
   |none=>rw[hgn]at pp;exact pp.elim
   |some ob =>
    rw[hgn]at pp
    obtain⟨t',ht',orp⟩:=r.addr hgn
    rw[hn]at ht';cases ht'
    cases ob with
    |lst ds=>obtain⟨vs,hH,q⟩:=orp;exact⟨t,vs,rfl,.inl ⟨.of hH,λl hl=>pp _ _ μ (Q8 hl) (r.new hl) (.tup (.of Qq) (q.mono (Q8 hl)))⟩⟩
    |_=>exact pp.elim
  |_=>exact pp.elim) he hg (by decide) (by decide) hs hpl
theorem Jr(ho:PE3 ca X o mo)(he:PE3 ca X e me)(hbase:attributeBase o "append" X.env (eval o X.env)=eval o X.env:=by rfl)(hfew:((backTo pos (starEach [e] X.env)).all (λx=>!x.1) && (backToKw pos (keywordEach [] X.env)).all (λx=>x.1.isSome) && decide ([e].length+([]:List Keyword).length+(if ([]:List Keyword).isEmpty then 0 else 1)<30))=true:=by rfl)(hline:(apos.endLine == pos.line)=true:=by rfl)(hs:starEach [e] X.env=(false,eval e X.env)::starEach [] X.env:=by rfl)(hplain:(backTo pos (starEach [] X.env)).any (·.1)=false:=by rfl):
  PE3 ca X (.Call (.Attribute o "append" apos) [e] [] pos) (ZP mo me) :=
 λpn Φ=>Zf (Qk8 (X:=xat X ca pn Φ) RZ PySem.F.slot_list_append PySem.F.type_list_append Qhm (ho pn Φ) (ZR he Qp hs pn Φ) hbase hfew hline hs hplain) λσ H Q ⟨σ3,g,μ,R,q⟩=>Zm (Jy R q) λx H1 hQ=>by
  obtain⟨d,g1,μ1,e1,R1,q1,p1⟩:=hQ
  cases q1 with
  |@ref n t hn =>
   dsimp only at p1
   cases hgn:g1[n]? with
   |none=>rw[hgn]at p1;exact p1.elim
   |some ob =>
    rw[hgn]at p1
    obtain⟨t',ht',orp⟩:=R1.g.addr hgn
    rw[hn]at ht';cases ht'
    cases ob with
    |lst ds0 =>
     obtain⟨vs0,hH0,_⟩:=orp
     dsimp only at p1
     refine⟨.inl ⟨rfl,_,.of hH0⟩,σ3,g1,μ1,R1,?_⟩
     unfold Qb mNil
     cases hm:me σ3 g1 with
     |raise _ _=>rw[hm]at p1;exact p1
     |stuck=>rw[hm]at p1;exact p1.elim
     |ok y g2 =>
      rw[hm,Res.bind_ok]at p1
      rw[Res.bind_ok,Res.bind_ok]
      intro vs H2 μ2 e2 r2 q2
      cases q2 with
      |@cons vy _ _ _ h1 h2 =>
       cases h2
       cases hg2:g2[n]? with
       |none=>rw[hg2]at p1;exact p1.elim
       |some ob2 =>
        rw[hg2]at p1
        obtain⟨t',ht',orp⟩:=r2.addr hg2
        rw[e2.at hn]at ht';cases ht'
        cases ob2 with
        |lst ds =>
         obtain⟨ws,hH,qs⟩:=orp
         dsimp only at p1
         by_cases z:ds.length<SZ
         ·rw[Uc z]at p1
          have ex:Ext X.K μ2 H2 μ2 (upd H2 t (.lst (ws++[vy]))):=Y3 hH (by intro _ z;cases z) (by intro _ _ z;cases z)
          refine⟨t,ws,_,rfl,rfl,hH,by rw[qs.length];exact Uw z JA,p1 _ _ μ2 (e2.trans ex) ?_ .non⟩
          exact r2.set (e2.at hn) hH (by intro _ z;cases z) (by intro _ _ z;cases z) ⟨_,Qq,(qs.mono ex).append (.cons (h1.mono ex) .nil)⟩
         ·rw[Uh z]at p1;exact p1.elim
        |_=>exact p1.elim
    |_=>exact p1.elim
  |_=>exact p1.elim
theorem Dens.dropLast{K:Frag}{μ:List Addr}{H:Hp}{vs:List V}{ds:List D}(h:Dens K μ H vs ds):Dens K μ H vs.dropLast ds.dropLast:=by
 rw[Wz,Wz,h.length]
 exact h.take _
theorem Qli(ho:PE3 ca X o mo)(hbase:attributeBase o "pop" X.env (eval o X.env)=eval o X.env:=by rfl)(hline:(apos.endLine == pos.line)=true:=by rfl):PE3 ca X (.Call (.Attribute o "pop" apos) [] [] pos) (mOp1 pPop mo) :=
 λpn Φ=>Zf (QmM (X:=xat X ca pn Φ) RZ PySem.F.slot_list_pop PySem.F.type_list_pop QmN (ho pn Φ) hbase hline) λσ H Q ⟨σ3,g,μ,R,q⟩=>Zm (Jy R q) λx H1 hQ=>by
  obtain⟨d,g1,μ1,e1,R1,q1,p1⟩:=hQ
  unfold pPop at p1
  cases q1 with
  |@ref n t hn =>
   dsimp only at p1
   cases hgn:g1[n]? with
   |none=>rw[hgn]at p1;exact p1.elim
   |some ob =>
    rw[hgn]at p1
    obtain⟨t',ht',orp⟩:=R1.g.addr hgn
    rw[hn]at ht';cases ht'
    cases ob with
    |lst ds =>
     obtain⟨ws,hH,qs⟩:=orp
     dsimp only at p1
     cases hl:ds[ds.length-1]? with
     |none=>rw[hl]at p1;exact p1.elim
     |some y =>
      rw[hl]at p1
      obtain⟨v,h1,h2⟩:=qs.get hl
      have ex:Ext X.K μ1 H1 μ1 (upd H1 t (.lst ws.dropLast)):=Y3 hH (by intro _ z;cases z) (by intro _ _ z;cases z)
      refine⟨.inl ⟨rfl,_,.of hH⟩,t,ws,v,rfl,rfl,hH,by rw[qs.length];exact h1,p1 v _ μ1 ex ?_ (h2.mono ex)⟩
      exact R1.g.set hn hH (by intro _ z;cases z) (by intro _ _ z;cases z) ⟨_,Qq,(qs.mono ex).dropLast⟩
    |_=>exact p1.elim
  |_=>exact p1.elim
end
def IsIt(b:Bool)(h:Heap)(i l:Addr)(k:Nat):Prop:=if b=true then h.IsListIter i l k else h.IsTupleIter i l k
def IsSq(b:Bool)(h:Heap)(l:Addr)(xs:Array Value):Prop:=if b=true then h.IsList l xs else h.IsTuple l xs
theorem IsIt.at{b:Bool}{h h':Heap}{i l:Addr}{k:Nat}(x:IsIt b h i l k)(hk:∀o,h.get? i=some o->h'.get? i=some o):IsIt b h' i l k:=by
 cases b
 ·exact Heap.IsTupleIter.at (show h.IsTupleIter i l k from x) hk
 ·exact Heap.IsListIter.at (show h.IsListIter i l k from x) hk
theorem IsSq.at{b:Bool}{h h':Heap}{l:Addr}{xs:Array Value}(x:IsSq b h l xs)(hk:∀o,h.get? l=some o->h'.get? l=some o):IsSq b h' l xs:=by
 cases b
 ·obtain⟨o,e,c⟩:=(show h.IsTuple l xs from x);exact⟨o,hk o e,c⟩
 ·obtain⟨o,e,c⟩:=(show h.IsList l xs from x);exact⟨o,hk o e,c⟩
theorem IsIt.lt{b:Bool}{h:Heap}{i l:Addr}{k:Nat}(x:IsIt b h i l k):i<h.objs.size:=by
 cases b
 ·obtain⟨o,e,_⟩:=(show h.IsTupleIter i l k from x);exact Uk e
 ·obtain⟨o,e,_⟩:=(show h.IsListIter i l k from x);exact Uk e
theorem IsIt.rec{b:Bool}{h:Heap}{i l:Addr}{k:Nat}(x:IsIt b h i l k):∃o,h.get? i=some o/\∀v,o.data≠.cell v:=by
 cases b
 ·obtain⟨o,e,c,d⟩:=(show h.IsTupleIter i l k from x);exact⟨o,e,λv z=>by rw[d]at z;cases z⟩
 ·obtain⟨o,e,c,d⟩:=(show h.IsListIter i l k from x);exact⟨o,e,λv z=>by rw[d]at z;cases z⟩
theorem IsSq.lt{b:Bool}{h:Heap}{l:Addr}{xs:Array Value}(x:IsSq b h l xs):l<h.objs.size:=by
 cases b
 ·obtain⟨o,e,_⟩:=(show h.IsTuple l xs from x);exact Uk e
 ·obtain⟨o,e,_⟩:=(show h.IsList l xs from x);exact Uk e
section
variable{prog:Program}{w:World}{A:Around}{E:Value->Shared->Prop}{s:Shared}
theorem Qgw{it t:Addr}{i:Nat}{items:Array Value}{x:Value}{Q:Value->Shared->Prop}(hit:s.heap.IsTupleIter it t i)(ht:s.heap.IsTuple t items)(hx:items[i]?=some x)(hQ:∀h',h'.IsTupleIter it t (i+1)->Heap.SameBut it s.heap h'->Q x {s with heap:=h'}):
  wpAny (model prog w) A (Builtin.SmallTypes.nextOf (.ref it)) Q E s:=by
 obtain⟨o,ho,hc,hd⟩:=id hit;obtain⟨ol,hol,_,nl,hdl⟩:=ht;unfold Builtin.SmallTypes.nextOf
 refine Ua (Tf (name:=Str.ofString "__next__") hit.typeIs TD (Tg TD hit.typeIs RG ?_ (Rx _)))
 show wpAny _ _ (field (.ref it) 0 >>= _) _ _ s;refine Ua (UM ho hd (x:=.ref t) rfl ?_)
 show wpAny _ _ (if (Value.ref t == Value.none)=true then _ else _) _ _ s;rw[Uh (show ¬((Value.ref t == Value.none)=true) from Ud)]
 show wpAny _ _ (field (.ref it) 1 >>= _) _ _ s;refine Ua (UM ho hd (x:=.int i 0) rfl ?_)
 show wpAny _ _ (seqItems? (.ref t) >>= _) _ _ s;refine Ua (Tr hol hdl ?_);simp only[T0,hx]
 refine Ua (TK ho hd (by simp) (Uj ⟨x,rfl,Uj (hQ _ ⟨_,TH _ ho (TZ (Tk hd _)),(RT ..).trans hc,by rw[Tk hd];simp[rawInt]⟩ (Tw ..))⟩))
theorem Qdb{it t:Addr}{i:Nat}{items:Array Value}{Q:Value->Shared->Prop}(hh:A.handled=none)(hit:s.heap.IsTupleIter it t i)(ht:s.heap.IsTuple t items)(hx:items[i]?=none)(hE:∀h' e,Heap.ExtBut it s.heap h'->(∃o,h'.get? e=some o/\o.cls=.type "StopIteration")->E (.ref e) {s with heap:=h'}):wpAny (model prog w) A (Builtin.SmallTypes.nextOf (.ref it)) Q E s:=by
 obtain⟨o,ho,hc,hd⟩:=id hit;obtain⟨ol,hol,_,nl,hdl⟩:=ht;unfold Builtin.SmallTypes.nextOf
 refine Ua (Tf (name:=Str.ofString "__next__") hit.typeIs TD (Tg TD hit.typeIs RG ?_ (Rx _)))
 show wpAny _ _ (field (.ref it) 0 >>= _) _ _ s;refine Ua (UM ho hd (x:=.ref t) rfl ?_)
 show wpAny _ _ (if (Value.ref t == Value.none)=true then _ else _) _ _ s;rw[Uh (show ¬((Value.ref t == Value.none)=true) from Ud)]
 show wpAny _ _ (field (.ref it) 1 >>= _) _ _ s;refine Ua (UM ho hd (x:=.int i 0) rfl ?_)
 show wpAny _ _ (seqItems? (.ref t) >>= _) _ _ s;refine Ua (Tr hol hdl ?_);simp only[T0,hx]
 refine Ua (Ro (Ua (TK ho hd (by simp) ?_)))
 show wpAny _ _ (newExc (.type "StopIteration") [] >>= _) _ _ _;refine Ua ?_;simp only[newExc,newTuple];refine Ua (U2 ?_ (by size_fits))
 refine Ua (m:=firstArgMember _ _) (TY (a:=Value.none) (by first|rfl|(simp only[firstArgMember];rfl)) ?_);refine U2 ?_ (by size_fits);simp only[raiseNew]
 refine Ua (wpAny_handled ?_);(first|rw[show A.in1.handled=none from hh]|rw[hh]);refine Ua (Uj (wpAny_throw ?_))
 exact hE _ _ (((Tw ..).extBut.push _).push _) ⟨_,Ul _ rfl,rfl⟩
theorem QhN{b:Bool}{it l:Addr}{i:Nat}{xs:Array Value}{x:Value}{Q:Value->Shared->Prop}(hit:IsIt b s.heap it l i)(hl:IsSq b s.heap l xs)(hx:xs[i]?=some x)(hQ:∀h',IsIt b h' it l (i+1)->Heap.SameBut it s.heap h'->Q x {s with heap:=h'}):
  wpAny (model prog w) A (Builtin.SmallTypes.nextOf (.ref it)) Q E s:=by
 cases b
 ·exact Qgw hit hl hx hQ
 ·exact wpAny_nextOf_list_item hit hl hx hQ
theorem QhO{b:Bool}{it l:Addr}{i:Nat}{xs:Array Value}{Q:Value->Shared->Prop}(hh:A.handled=none)(hit:IsIt b s.heap it l i)(hl:IsSq b s.heap l xs)(hx:xs[i]?=none)(hE:∀h' e,Heap.ExtBut it s.heap h'->(∃o,h'.get? e=some o/\o.cls=.type "StopIteration")->E (.ref e) {s with heap:=h'}):wpAny (model prog w) A (Builtin.SmallTypes.nextOf (.ref it)) Q E s:=by
 cases b
 ·exact Qdb hh hit hl hx hE
 ·exact wpAny_nextOf_list_end hh hit hl hx hE
theorem Qlj{b1 b2:Bool}{z TI TO i1 i2 l1 l2:Addr}{k:Nat}{xs ys:Array Value}{x y a b:Value}{Q:Value->Shared->Prop}(D:ZipApart z TI TO i1 i2 l1 l2)(hz:IsZip s.heap z TI TO .none)(hTI:IsPair s.heap TI (.ref i1) (.ref i2))(hTO:IsPair s.heap TO a b)(h1:IsIt b1 s.heap i1 l1 k)(h2:IsIt b2 s.heap i2 l2 k)(hl1:IsSq b1 s.heap l1 xs)(hl2:IsSq b2 s.heap l2 ys)(hx:xs[k]?=some x)(hy:ys[k]?=some y)(hQ:∀h',IsZip h' z TI TO (rawInt s.heap.objs.size)->IsPair h' TO x y->IsIt b1 h' i1 l1 (k+1)->IsIt b2 h' i2 l2 (k+1)->IsPair h' s.heap.objs.size x y->h'.objs.size=s.heap.objs.size+1 ->
   (∀c o,c≠z->c≠TO->c≠i1->c≠i2->s.heap.get? c=some o->h'.get? c=some o)->Q (.ref s.heap.objs.size) {s with heap:=h'}):
  wpAny (model prog w) A (Builtin.«zip.__next__» ⟨[.ref z],[]⟩) (λfin s'=>∃v,fin=.done (.ret v)/\Q v s') E s:=by
 show wpAny _ _ (field (.ref z) 2 >>= _) _ _ _;refine Ua (UM hz rfl (x:=.bool false) rfl ?_)
 show wpAny _ _ (field (.ref z) 3 >>= _) _ _ _;refine Ua (UM hz rfl (x:=.ref TI) rfl ?_);refine Ua (Tr hTI rfl ?_)
 show wpAny _ _ (Builtin.SmallTypes.ownedTupleIsFree (.ref z) >>= _) _ _ _;refine Ua ?_;unfold Builtin.SmallTypes.ownedTupleIsFree
 refine Ua (UM hz rfl (x:=.none) rfl (Uj ?_));simp only[RC];refine Ua (Ro ?_);refine Ua (UM hz rfl (x:=.ref TO) rfl ?_)
 refine Ua (TF hz (by simp) λg1 hz1 hs1=>?_);replace hz1:IsZip g1 z TI TO .ellipsis:=hz1
 refine Ua ?_;simp only[List.zipIdx_cons,List.zipIdx_nil,Ws,WJ];refine Ua (Ua (RY ?_))
 show wpAny _ _ (Builtin.SmallTypes.nextOf (.ref i1) >>= _) _ _ _
 refine Ua (QhN (h1.at λo e=>hs1.extBut _ o D.i1z e) (hl1.at λo e=>hs1.extBut _ o D.l1z e) hx λg2 h12 hs2=>Uj ?_)
 have hTO2:IsPair g2 TO a b:=hs2.extBut _ _ D.TOi1 (hs1.extBut _ _ D.TOz hTO)
 refine Ua (Tr hTO2 rfl ?_);refine Ua (Rs hTO2 λg3 hTO3 hs3=>?_);replace hTO3:IsPair g3 TO x b:=hTO3
 refine Ua (wpAny_letGo (Uj ?_));refine Ua (Ua (RY ?_))
 show wpAny _ _ (Builtin.SmallTypes.nextOf (.ref i2) >>= _) _ _ _
 refine Ua (QhN (h2.at λo e=>hs3.extBut _ o D.TOi2.symm (hs2.extBut _ o D.i12.symm (hs1.extBut _ o D.i2z e))) (hl2.at λo e=>hs3.extBut _ o D.l2TO (hs2.extBut _ o D.l2i1 (hs1.extBut _ o D.l2z e))) hy λg4 h24 hs4=>Uj ?_)
 have hTO4:IsPair g4 TO x b:=hs4.extBut _ _ D.TOi2 hTO3
 refine Ua (Tr hTO4 rfl ?_);refine Ua (Rs hTO4 λg5 hTO5 hs5=>?_);replace hTO5:IsPair g5 TO x y:=hTO5
 refine Ua (wpAny_letGo (Uj (Uj ?_)));refine Ua (Tr hTO5 rfl ?_);refine Ua (wpAny_newTuple ?_)
 have hsz:g5.objs.size=s.heap.objs.size:=by rw[hs5.1,hs4.1,hs3.1,hs2.1,hs1.1]
 have hz5:IsZip g5 z TI TO .ellipsis:=hs5.extBut _ _ D.TOz.symm (hs4.extBut _ _ D.i2z.symm (hs3.extBut _ _ D.TOz.symm (hs2.extBut _ _ D.i1z.symm hz1)))
 have hk5:∀c o,c≠z->c≠TO->c≠i1->c≠i2->s.heap.get? c=some o->g5.get? c=some o:=λc o c1 c2 c3 c4 e=>hs5.extBut _ _ c2 (hs4.extBut _ _ c4 (hs3.extBut _ _ c2 (hs2.extBut _ _ c3 (hs1.extBut _ _ c1 e))))
 have h15:IsIt b1 g5 i1 l1 (k+1):=h12.at λo e=>hs5.extBut _ o D.TOi1.symm (hs4.extBut _ o D.i12 (hs3.extBut _ o D.TOi1.symm e))
 have h25:IsIt b2 g5 i2 l2 (k+1):=h24.at λo e=>hs5.extBut _ o D.TOi2.symm e
 have hzlt:z<g5.objs.size:=Uk hz5
 show wpAny _ _ (Builtin.SmallTypes.ownedTupleHandOut (.ref z) (.ref g5.objs.size) >>= _) _ _ _
 refine Ua ?_;unfold Builtin.SmallTypes.ownedTupleHandOut
 have hz6:IsZip (g5.push {cls:=.type "tuple",data:=.seq #[x,y]}) z TI TO .ellipsis:=Ub _ hz5
 refine Ua (TF hz6 (by simp) λg7 hz7 hs7=>?_);replace hz7:IsZip g7 z TI TO (rawInt g5.objs.size):=hz7
 refine TF hz7 (by simp) λg8 hz8 hs8=>?_;replace hz8:IsZip g8 z TI TO (rawInt g5.objs.size):=hz8
 have upz:∀c o,c≠z->g5.get? c=some o->g8.get? c=some o:=λc o c1 e=>hs8.extBut _ _ c1 (hs7.extBut _ _ c1 (Ub _ e))
 have hT8:IsPair g8 g5.objs.size x y:=hs8.extBut _ _ (Rj hzlt) (hs7.extBut _ _ (Rj hzlt) (Ul _ rfl))
 have hsz8:g8.objs.size=g5.objs.size+1:=by rw[hs8.1,hs7.1,Tq]
 rw[hsz]at hz8 hT8 hsz8;refine Uj ⟨_,rfl,?_⟩;show Q (.ref g5.objs.size) _;rw[hsz]
 exact hQ g8 hz8 (upz _ _ D.TOz hTO5) (h15.at λo e=>upz _ o D.i1z e) (h25.at λo e=>upz _ o D.i2z e) hT8 hsz8 λc o c1 c2 c3 c4 e=>upz c o c1 (hk5 c o c1 c2 c3 c4 e)
theorem Qm0{b1 b2:Bool}{z TI TO i1 i2 l1 l2:Addr}{k:Nat}{xs ys:Array Value}{a b:Value}{Q:Fin->Shared->Prop}(hh:A.handled=none)(D:ZipApart z TI TO i1 i2 l1 l2)(hz:IsZip s.heap z TI TO .none)(hTI:IsPair s.heap TI (.ref i1) (.ref i2))(hTO:IsPair s.heap TO a b)(h1:IsIt b1 s.heap i1 l1 k)(h2:IsIt b2 s.heap i2 l2 k)(hl1:IsSq b1 s.heap l1 xs)(hl2:IsSq b2 s.heap l2 ys)(hend:xs[k]?=none\/ys[k]?=none)(hE:∀h' e,(∀c o,c≠z->c≠TO->c≠i1->c≠i2->s.heap.get? c=some o->h'.get? c=some o)->(∃o,h'.get? e=some o/\o.cls=.type "StopIteration")->E (.ref e) {s with heap:=h'}):
  wpAny (model prog w) A (Builtin.«zip.__next__» ⟨[.ref z],[]⟩) Q E s:=by
 show wpAny _ _ (field (.ref z) 2 >>= _) _ _ _;refine Ua (UM hz rfl (x:=.bool false) rfl ?_)
 show wpAny _ _ (field (.ref z) 3 >>= _) _ _ _;refine Ua (UM hz rfl (x:=.ref TI) rfl ?_);refine Ua (Tr hTI rfl ?_)
 show wpAny _ _ (Builtin.SmallTypes.ownedTupleIsFree (.ref z) >>= _) _ _ _;refine Ua ?_;unfold Builtin.SmallTypes.ownedTupleIsFree
 refine Ua (UM hz rfl (x:=.none) rfl (Uj ?_));simp only[RC];refine Ua (Ro ?_);refine Ua (UM hz rfl (x:=.ref TO) rfl ?_)
 refine Ua (TF hz (by simp) λg1 hz1 hs1=>?_);replace hz1:IsZip g1 z TI TO .ellipsis:=hz1
 refine Ua ?_;simp only[List.zipIdx_cons,List.zipIdx_nil,Ws,WJ];refine Ua (Ua (RY ?_))
 show wpAny _ _ (Builtin.SmallTypes.nextOf (.ref i1) >>= _) _ _ _
 cases hx:xs[k]? with
 |none =>
  refine Ua (QhO hh (h1.at λo e=>hs1.extBut _ o D.i1z e) (hl1.at λo e=>hs1.extBut _ o D.l1z e) hx λg2 e hs2 he=>?_)
  obtain⟨oe,hoe,hce⟩:=he;have hz2:IsZip g2 z TI TO .ellipsis:=hs2 _ _ D.i1z.symm hz1
  have hez:e≠z:=λq=>by subst q;rw[hz2]at hoe;cases hoe;simp at hce
  refine TF hz2 (by simp) λg3 _ hs3=>hE g3 e (λc o c1 _ c3 _ q=>hs3.extBut _ _ c1 (hs2 _ _ c3 (hs1.extBut _ _ c1 q))) ⟨oe,hs3.extBut _ _ hez hoe,hce⟩
 |some x =>
  have hy:ys[k]?=none:=by rcases hend with q|q;(· rw[hx]at q;cases q);exact q
  refine Ua (QhN (h1.at λo e=>hs1.extBut _ o D.i1z e) (hl1.at λo e=>hs1.extBut _ o D.l1z e) hx λg2 h12 hs2=>Uj ?_)
  have hTO2:IsPair g2 TO a b:=hs2.extBut _ _ D.TOi1 (hs1.extBut _ _ D.TOz hTO)
  refine Ua (Tr hTO2 rfl ?_);refine Ua (Rs hTO2 λg3 hTO3 hs3=>?_);refine Ua (wpAny_letGo (Uj ?_));refine Ua (Ua (RY ?_))
  show wpAny _ _ (Builtin.SmallTypes.nextOf (.ref i2) >>= _) _ _ _
  refine Ua (QhO hh (h2.at λo e=>hs3.extBut _ o D.TOi2.symm (hs2.extBut _ o D.i12.symm (hs1.extBut _ o D.i2z e))) (hl2.at λo e=>hs3.extBut _ o D.l2TO (hs2.extBut _ o D.l2i1 (hs1.extBut _ o D.l2z e))) hy λg4 e hs4 he=>?_)
  obtain⟨oe,hoe,hce⟩:=he;have hz4:IsZip g4 z TI TO .ellipsis:=hs4 _ _ D.i2z.symm (hs3.extBut _ _ D.TOz.symm (hs2.extBut _ _ D.i1z.symm hz1))
  have hez:e≠z:=λq=>by subst q;rw[hz4]at hoe;cases hoe;simp at hce
  refine TF hz4 (by simp) λg5 _ hs5=>hE g5 e (λc o c1 c2 c3 c4 q=>hs5.extBut _ _ c1 (hs4 _ _ c4 (hs3.extBut _ _ c2 (hs2.extBut _ _ c3 (hs1.extBut _ _ c1 q))))) ⟨oe,hs5.extBut _ _ hez hoe,hce⟩
theorem Qgx{b1 b2:Bool}{z TI TO i1 i2 l1 l2:Addr}{k:Nat}{xs ys:Array Value}{x y a b:Value}{Q:Option Value->Shared->Prop}(D:ZipApart z TI TO i1 i2 l1 l2)(hz:IsZip s.heap z TI TO .none)(hTI:IsPair s.heap TI (.ref i1) (.ref i2))(hTO:IsPair s.heap TO a b)(h1:IsIt b1 s.heap i1 l1 k)(h2:IsIt b2 s.heap i2 l2 k)(hl1:IsSq b1 s.heap l1 xs)(hl2:IsSq b2 s.heap l2 ys)(hx:xs[k]?=some x)(hy:ys[k]?=some y)(hQ:∀h',IsZip h' z TI TO (rawInt s.heap.objs.size)->IsPair h' TO x y->IsIt b1 h' i1 l1 (k+1)->IsIt b2 h' i2 l2 (k+1)->IsPair h' s.heap.objs.size x y->h'.objs.size=s.heap.objs.size+1 ->
   (∀c o,c≠z->c≠TO->c≠i1->c≠i2->s.heap.get? c=some o->h'.get? c=some o)->Q (some (.ref s.heap.objs.size)) {s with heap:=h'}):wpAny (model prog w) A (pyNext (.ref z)) Q E s:=by
 have hT:s.TypeIs (.ref z) "zip":=⟨_,hz,rfl⟩;unfold pyNext
 exact Ua (Rt (Tf (name:=Str.ofString "__next__") hT RA (Tg RA hT F.entry_zip_next (Qlj D hz hTI hTO h1 h2 hl1 hl2 hx hy λh' a1 a2 a3 a4 a5 a6 a7=>Uj (hQ h' a1 a2 a3 a4 a5 a6 a7)) (F.args_zip_next_1 _))))
theorem Qdc{b1 b2:Bool}{z TI TO i1 i2 l1 l2:Addr}{k:Nat}{xs ys:Array Value}{a b:Value}{Q:Option Value->Shared->Prop}(hh:A.handled=none)(D:ZipApart z TI TO i1 i2 l1 l2)(hz:IsZip s.heap z TI TO .none)(hTI:IsPair s.heap TI (.ref i1) (.ref i2))(hTO:IsPair s.heap TO a b)(h1:IsIt b1 s.heap i1 l1 k)(h2:IsIt b2 s.heap i2 l2 k)(hl1:IsSq b1 s.heap l1 xs)(hl2:IsSq b2 s.heap l2 ys)(hend:xs[k]?=none\/ys[k]?=none)(hQ:∀h',(∀c o,c≠z->c≠TO->c≠i1->c≠i2->s.heap.get? c=some o->h'.get? c=some o)->Q none {s with heap:=h'}):wpAny (model prog w) A (pyNext (.ref z)) Q E s:=by
 have hT:s.TypeIs (.ref z) "zip":=⟨_,hz,rfl⟩;unfold pyNext
 refine Ua (Rt (Tf (name:=Str.ofString "__next__") hT RA (Tg RA hT F.entry_zip_next (Qm0 hh D hz hTI hTO h1 h2 hl1 hl2 hend λh' e hk he=>?_) (F.args_zip_next_1 _))))
 obtain⟨o,ho,hc⟩:=he;refine Ua (TV (T:="StopIteration") (b:=true) ⟨o,ho,hc⟩ isSubtype_stop ?_);exact Uj (hQ _ hk)
noncomputable def Qm1(b:Bool):String:=if b=true then "list_iterator" else "tuple_iterator"
noncomputable def Qdd(b:Bool)(l:Addr):Obj:={cls:=.type (Qm1 b),data:=.fields #[.ref l,.int 0 0]}
theorem Qd7{b:Bool}{l:Addr}{xs:Array Value}{Q:Value->Shared->Prop}(hl:IsSq b s.heap l xs)(h:Q (.ref s.heap.objs.size) {s with heap:=s.heap.push (Qdd b l)}):wpAny (model prog w) A (pyIter (.ref l)) Q E s:=by
 cases b
 ·exact wpAny_pyIter_tuple hl h
 ·exact RU hl h
theorem IsSq.push{b:Bool}{h:Heap}{l:Addr}{xs:Array Value}(x:IsSq b h l xs)(o:Obj):IsSq b (h.push o) l xs:=x.at λ_ e=>Ub _ e
noncomputable abbrev zH1(b1:Bool)(h:Heap)(l1:Addr):Heap:=h.push (Qdd b1 l1)
noncomputable abbrev zH2(b1 b2:Bool)(h:Heap)(l1 l2:Addr):Heap:=(zH1 b1 h l1).push (Qdd b2 l2)
noncomputable abbrev zH3(b1 b2:Bool)(h:Heap)(l1 l2:Addr):Heap:=(zH2 b1 b2 h l1 l2).push {cls:=.type "tuple",data:=.seq #[.ref h.objs.size,.ref (zH1 b1 h l1).objs.size]}
noncomputable abbrev zH4(b1 b2:Bool)(h:Heap)(l1 l2:Addr):Heap:=(zH3 b1 b2 h l1 l2).push {cls:=.type "tuple",data:=.seq #[.none,.none]}
noncomputable abbrev zH5(b1 b2:Bool)(h:Heap)(l1 l2:Addr):Heap:=(zH4 b1 b2 h l1 l2).push {cls:=.type "zip",data:=.fields #[.none,.bool false,.bool false,.ref (zH2 b1 b2 h l1 l2).objs.size,.ref (zH3 b1 b2 h l1 l2).objs.size]}
theorem Qlk(b1 b2:Bool)(l1 l2:Addr)(xs ys:Array Value):Meets (Builtin.«zip.__new__» ⟨[.type "zip",.ref l1,.ref l2],[]⟩) (λ_ R s=>IsSq b1 s.heap l1 xs/\IsSq b2 s.heap l2 ys/\R (.ok (.ret (.ref (zH4 b1 b2 s.heap l1 l2).objs.size))) {s with heap:=zH5 b1 b2 s.heap l1 l2}) :=
 .of_wp λprog w A R s h=>by
  obtain⟨hp,g,d,tk,os⟩:=s;obtain⟨hl1,hl2,h⟩:=h;have hsub:=sub_zip
  have hL1:IsSq b1 (Shared.heap ⟨hp,g,d,tk,os⟩) l1 xs:=hl1
  have hL2:IsSq b2 (Shared.heap ⟨hp.push (Qdd b1 l1),g,d,tk,os⟩) l2 ys:=hl2.push _
  wp_walk using Qd7 hL1,Qd7 hL2
  exact⟨_,rfl,h⟩
theorem itAt(b:Bool){h:Heap}{i l:Addr}(e:h.get? i=some (Qdd b l)):IsIt b h i l 0:=by
 cases b
 ·exact⟨_,e,rfl,rfl⟩
 ·exact⟨_,e,rfl,rfl⟩
theorem Qje{b1 b2:Bool}{l1 l2:Addr}{xs ys:Array Value}{Q:Value->Shared->Prop}(hl1:IsSq b1 s.heap l1 xs)(hl2:IsSq b2 s.heap l2 ys)(h:∀h',IsZip h' (s.heap.objs.size+4) (s.heap.objs.size+2) (s.heap.objs.size+3) .none->IsPair h' (s.heap.objs.size+2) (.ref s.heap.objs.size) (.ref (s.heap.objs.size+1))->IsPair h' (s.heap.objs.size+3) .none .none ->
   IsIt b1 h' s.heap.objs.size l1 0->IsIt b2 h' (s.heap.objs.size+1) l2 0->h'.objs.size=s.heap.objs.size+5->(∀c o,s.heap.get? c=some o->h'.get? c=some o)->Q (.ref (s.heap.objs.size+4)) {s with heap:=h'}):
  wpAny (model prog w) A (call (.type "zip") [.ref l1,.ref l2]) Q E s:=by
 refine callType_new F.called_zip (by decide) (F.typeCall_zip_2 _ _) (F.newCall_zip_2 _ _) (λobj=>F.args_object_init_3 obj _ _) F.entry_zip_new (Qlk b1 b2 l1 l2 xs ys) ⟨hl1,hl2,?_⟩
 have z1:(zH1 b1 s.heap l1).objs.size=s.heap.objs.size+1:=Tq ..
 have z2:(zH2 b1 b2 s.heap l1 l2).objs.size=s.heap.objs.size+2:=by rw[Tq,z1]
 have z3:(zH3 b1 b2 s.heap l1 l2).objs.size=s.heap.objs.size+3:=by rw[Tq,z2]
 have z4:(zH4 b1 b2 s.heap l1 l2).objs.size=s.heap.objs.size+4:=by rw[Tq,z3]
 have z5:(zH5 b1 b2 s.heap l1 l2).objs.size=s.heap.objs.size+5:=by rw[Tq,z4]
 have g5:(zH5 b1 b2 s.heap l1 l2).get? (zH4 b1 b2 s.heap l1 l2).objs.size=some _:=Ul _ rfl
 have g4:(zH5 b1 b2 s.heap l1 l2).get? (zH3 b1 b2 s.heap l1 l2).objs.size=some _:=Ub _ (Ul _ rfl)
 have g3:(zH5 b1 b2 s.heap l1 l2).get? (zH2 b1 b2 s.heap l1 l2).objs.size=some _:=Ub _ (Ub _ (Ul _ rfl))
 have g2:(zH5 b1 b2 s.heap l1 l2).get? (zH1 b1 s.heap l1).objs.size=some (Qdd b2 l2):=Ub _ (Ub _ (Ub _ (Ul _ (by unfold Qdd;rfl))))
 have g1:(zH5 b1 b2 s.heap l1 l2).get? s.heap.objs.size=some (Qdd b1 l1):=Ub _ (Ub _ (Ub _ (Ub _ (Ul _ (by unfold Qdd;rfl)))))
 show _/\_
 rw[z2,z3,z4]at g5;rw[z1,z2]at g3;rw[z3]at g4;rw[z1]at g2;rw[z4]
 exact⟨⟨_,g5,rfl⟩,h _ g5 g3 g4 (itAt b1 g1) (itAt b2 g2) z5 λc o q=>Ub _ (Ub _ (Ub _ (Ub _ (Ub _ q))))⟩
end
def Sq(b:Bool)(K:Frag)(H:Hp)(a:Addr)(xs:List V):Prop:=if b=true then SqL K H a xs else SqT K H a xs
theorem Sq.real{b:Bool}{X:Cx}{pins:List (Addr×Obj)}{σ:L2.St}{H:Hp}{s:Shared}{a:Addr}{xs:List V}(I:Inv X pins σ H s)(h:Sq b X.K H a xs):∃its:List Value,Vals xs its/\IsSq b s.heap a its.toArray:=by
 cases b
 ·obtain⟨its,r,p,_⟩:=I.tuple (show SqT X.K H a xs from h);exact⟨its,r,p⟩
 ·obtain⟨its,r,p,_⟩:=I.list (show SqL X.K H a xs from h);exact⟨its,r,p.isList⟩
theorem Sq.inj{b:Bool}{X:Cx}{pins:List (Addr×Obj)}{σ:L2.St}{H:Hp}{s:Shared}{a:Addr}{xs ys:List V}(I:Inv X pins σ H s)(h:Sq b X.K H a xs)(h':Sq b X.K H a ys):xs=ys:=by
 cases b
 ·exact I.tuple_inj h h'
 ·exact I.list_inj h h'
noncomputable def Itz(K:Frag)(b1 b2:Bool)(a1 a2:Addr):It :=
  ⟨λi H=>∃xs ys x y,Sq b1 K H a1 xs/\Sq b2 K H a2 ys/\xs[i]?=some x/\ys[i]?=some y,
   λi H v H'=>∃p x y,H p=none/\v=.ref p/\H'=upd H p (.tup [x,y])/\(∀xs,Sq b1 K H a1 xs->xs[i]?=some x)/\∀ys,Sq b2 K H a2 ys->ys[i]?=some y,
   λi H=>∃xs ys,Sq b1 K H a1 xs/\Sq b2 K H a2 ys/\(xs.length<=i\/ys.length<=i)⟩
noncomputable def Qn2(b1 b2:Bool)(z TI TO i1 i2 l1 l2:Addr)(i:Nat)(h:Heap):Prop :=
 IsZip h z TI TO .none/\IsPair h TI (.ref i1) (.ref i2)/\(∃a b,IsPair h TO a b)/\IsIt b1 h i1 l1 i/\IsIt b2 h i2 l2 i
theorem Qjf{P:Program}{w:World}{K:Frag}{elts:List Expr}{kk:Nat}{tp:Pos}(b1 b2:Bool)(z TI TO i1 i2 l1 l2:Addr)(D:ZipApart z TI TO i1 i2 l1 l2):
  Turn P w K (.Tuple elts kk tp) (Itz K b1 b2 l1 l2) [z,TI,TO,i1,i2] z (Qn2 b1 b2 z TI TO i1 i2 l1 l2) where
 mem:=by simp
 obj:=λi h st b hb=>by
  obtain⟨hz,hTI,⟨a,c,hTO⟩,h1,h2⟩:=st
  have hb':b=z\/b=TI\/b=TO\/b=i1\/b=i2:=by simpa using hb
  rcases hb' with rfl|rfl|rfl|rfl|rfl
  ·exact⟨_,hz,λv q=>by cases q⟩
  ·exact⟨_,hTI,λv q=>by cases q⟩
  ·exact⟨_,hTO,λv q=>by cases q⟩
  ·exact h1.rec
  ·exact h2.rec
 keep:=λi h h' st k=>by
  obtain⟨hz,hTI,⟨a,c,hTO⟩,h1,h2⟩:=st
  exact⟨k z (by simp) _ hz,k TI (by simp) _ hTI,⟨a,c,k TO (by simp) _ hTO⟩,h1.at λo e=>k i1 (by simp) o e,h2.at λo e=>k i2 (by simp) o e⟩
 item:=by
  intro X hP hw hK hc i pins s σ H E I hf st hg
  subst hP hw hK
  obtain⟨xs,ys,x,y,q1,q2,hx,hy⟩:=hg
  obtain⟨us,r1,p1⟩:=q1.real I
  obtain⟨ts,r2,p2⟩:=q2.real I
  obtain⟨u,hu,ru⟩:=r1.get hx
  obtain⟨t,ht,rt⟩:=r2.get hy
  obtain⟨hz,hTI,⟨a,c,hTO⟩,h1,h2⟩:=st
  have fz:=hf z (by simp)
  have fTI:=hf TI (by simp)
  have fTO:=hf TO (by simp)
  have f1:=hf i1 (by simp)
  have f2:=hf i2 (by simp)
  refine Qgx D hz hTI hTO h1 h2 p1 p2 (by simpa using hu) (by simpa using ht) λh' a1 a2 a3 a4 a5 a6 hk=>?_
  have hp:H s.heap.objs.size=none:=I.hok.fresh (Ug _)
  have inC:∀b,b∈[z,TO,i1,i2]->FpOk X pins H b:=λb hb=>by
   have hb':b=z\/b=TO\/b=i1\/b=i2:=by simpa using hb
   rcases hb' with rfl|rfl|rfl|rfl
   ·exact fz
   ·exact fTO
   ·exact f1
   ·exact f2
  have hk':∀b o,b∉[z,TO,i1,i2]->s.heap.get? b=some o->h'.get? b=some o:=λb o hb e=>hk b o (λq=>hb (by simp[q])) (λq=>hb (by simp[q])) (λq=>hb (by simp[q])) (λq=>hb (by simp[q])) e
  have nC:∀b v,H b=some v->b∉[z,TO,i1,i2]:=λb v e hb=>by rw[(inC b hb).1]at e;cases e
  have nP:∀b v,H b=some v->b≠s.heap.objs.size:=λb v e=>QM e hp
  have I1:Inv X pins σ (upd H s.heap.objs.size (.tup [x,y])) {s with heap:=h'}:=by
   refine I.step (g':=s.gens) (t':=s.toks) (d':=s.drawn) (ch:=[z,TO,i1,i2]) (λb hb=>⟨(inC b hb).2.2.2.1,(inC b hb).2.1,(inC b hb).2.2.2.2.1,(inC b hb).2.2.2.2.2⟩) (λb o _ _ hb e _=>hk' b o hb e) (λb o _ _ hb e _=>⟨o.slots,hk' b o hb e⟩)
    (λb o hb e n=>by rw[Qs (UE (Uk e))];exact n) (λb o hb e=>⟨o,hk' b o hb e⟩) (λb v e=>by rw[Qs (nP b _ e)];exact e) (λb o v e=>by rw[Qs (nP b _ e)];exact e) (λb ps e=>⟨#[],by rw[Qs (nP b _ e),e];simp⟩)
    (λm hm=>?_) (λb v e=>?_) I.bare
   ·obtain⟨o,es,ep,ho,rr⟩:=hm
    exact⟨o,es,ep,hk' _ o (λhb=>(inC _ hb).2.1 rfl) ho,rr⟩
   ·by_cases hb:b=s.heap.objs.size
    ·subst hb
     rw[Qq]at e;cases e
     exact⟨by rw[Re];show 2<=16777216;decide,[u,t],.cons ru (.cons rt .nil),⟨_,a5,rfl,_,rfl⟩⟩
    ·rw[Qs hb]at e
     refine(I.hok b v e).stay (λc' v' hc' q=>?_) (λc' q=>by rw[Qs (nP c' _ q)];exact q) λc' xs' q=>by rw[Qs (nP c' _ q)];exact q
     rcases hc' with rfl|hc'
     ·exact hk' _ _ (nC _ _ e) q
     ·exact hk' _ _ (nC _ _ hc') q
  refine⟨_,rfl,wpAny_letOwnedTupleGo_zip a1 λh'' hz'' hs''=>?_⟩
  have hpz:s.heap.objs.size≠z:=Rj (Uk hz)
  have I2:Inv X pins σ (upd H s.heap.objs.size (.tup [x,y])) {s with heap:=h''}:=Inv.turned (s:={s with heap:=h'}) (t':=s.toks) I1 (λb o hb e=>hs''.extBut b o hb e) (by rw[Qs (Ne.symm hpz)];exact fz.1) fz.2.1 fz.2.2.2.1 fz.2.2.2.2.1 fz.2.2.2.2.2
  refine⟨.ref s.heap.objs.size,_,I2,rfl,⟨_,x,y,hp,rfl,rfl,λxs' q=>by rw[q.inj I q1];exact hx,λys' q=>by rw[q.inj I q2];exact hy⟩,
   ⟨hz'',hs''.extBut _ _ D.TIz (hk _ _ D.TIz D.TITO D.TIi1 D.TIi2 hTI),⟨_,_,hs''.extBut _ _ D.TOz a2⟩,a3.at λo e=>hs''.extBut _ o D.i1z e,a4.at λo e=>hs''.extBut _ o D.i2z e⟩,λb hb=>?_⟩
  have lt:b<s.heap.objs.size:=by
   have hb':b=z\/b=TI\/b=TO\/b=i1\/b=i2:=by simpa using hb
   rcases hb' with rfl|rfl|rfl|rfl|rfl
   ·exact Uk hz
   ·exact Uk hTI
   ·exact Uk hTO
   ·exact h1.lt
   ·exact h2.lt
  rw[Qs (UE lt)]
  exact(hf b hb).1
 done:=by
  intro X hP hw hK hc i pins s σ H E I hf st hg
  subst hP hw hK
  obtain⟨xs,ys,q1,q2,hl⟩:=hg
  obtain⟨us,r1,p1⟩:=q1.real I
  obtain⟨ts,r2,p2⟩:=q2.real I
  have l1:=r1.length
  have l2:=r2.length
  obtain⟨hz,hTI,⟨a,c,hTO⟩,h1,h2⟩:=st
  have inC:∀b,b∈[z,TO,i1,i2]->FpOk X pins H b:=λb hb=>hf b (by
   have hb':b=z\/b=TO\/b=i1\/b=i2:=by simpa using hb
   rcases hb' with rfl|rfl|rfl|rfl <;> simp)
  refine Qdc (I.ok.hd hc) D hz hTI hTO h1 h2 p1 p2 (by
   rcases hl with z|z
   ·exact .inl (by simp;omega)
   ·exact .inr (by simp;omega)) λh' hk=>⟨rfl,?_⟩
  have hk':∀b o,b∉[z,TO,i1,i2]->s.heap.get? b=some o->h'.get? b=some o:=λb o hb e=>hk b o (λq=>hb (by simp[q])) (λq=>hb (by simp[q])) (λq=>hb (by simp[q])) (λq=>hb (by simp[q])) e
  have nC:∀b v,H b=some v->b∉[z,TO,i1,i2]:=λb v e hb=>by rw[(inC b hb).1]at e;cases e
  refine I.step (g':=s.gens) (t':=s.toks) (d':=s.drawn) (ch:=[z,TO,i1,i2]) (λb hb=>⟨(inC b hb).2.2.2.1,(inC b hb).2.1,(inC b hb).2.2.2.2.1,(inC b hb).2.2.2.2.2⟩) (λb o _ _ hb e _=>hk' b o hb e) (λb o _ _ hb e _=>⟨o.slots,hk' b o hb e⟩)
   (λb o hb e n=>n) (λb o hb e=>⟨o,hk' b o hb e⟩) (λb v e=>e) (λb o v e=>e) (λb ps e=>⟨#[],by rw[e];simp⟩) (λm hm=>?_) (λb v e=>?_) I.bare
  ·obtain⟨o,es,ep,ho,rr⟩:=hm
   exact⟨o,es,ep,hk' _ o (λhb=>(inC _ hb).2.1 rfl) ho,rr⟩
  ·refine(I.hok b v e).stay (λc' v' hc' q=>?_) (λc' q=>q) λc' xs' q=>q
   rcases hc' with rfl|hc'
   ·exact hk' _ _ (nC _ _ e) q
   ·exact hk' _ _ (nC _ _ hc') q
 self:=λ_ _ _ _ _ st h=>wpAny_pyIter_zip st.1 h
section
variable{X:Cx}{ca:Nat->Addr}{e1 e2:Expr}{m1 m2:ME}{p pos tp:Pos}{elts:List Expr}{kk:Nat}
theorem Qm2{ta:TA}(hg:Gl X "zip")(hm:X.mg "zip" = none)(ha:PA X [e1,e2] ta)(hs:starEach [e1,e2] X.env=[(false,eval e1 X.env),(false,eval e2 X.env)])(hs2:starEach [e2] X.env=[(false,eval e2 X.env)]):
  PI X (.Tuple elts kk tp) (.Call (.Name "zip" p) [e1,e2] [] pos) (λσ H R=>ta σ H λvs H1=>∃b1 b2 a1 a2 xs ys,vs=[.ref a1,.ref a2]/\Sq b1 X.K H1 a1 xs/\Sq b2 X.K H1 a2 ys/\R (Itz X.K b1 b2 a1 a2) H1):=by
 intro pins s σ H R I h
 refine Call_ (Jw I hg hm boot_zip (UG (thn (ha pos pins s σ H _ I h) λus s1 ⟨vs,H1,I1,r1,q1⟩=>?_) (by rw[hs,hs2]) (by rw[hs2];rfl)))
 obtain⟨b1,b2,a1,a2,xs,ys,rfl,q1,q2,q⟩:=q1
 cases r1 with
 |cons ru rr =>
  cases rr with
  |cons rt rr =>
   cases rr
   cases ru
   cases rt
   obtain⟨its1,v1,p1⟩:=q1.real I1
   obtain⟨its2,v2,p2⟩:=q2.real I1
   refine Qje p1 p2 λh' hz hTI hTO hi1 hi2 hsz hk=>wpAny_pyIter_zip hz ?_
   have I2:Inv X pins σ H1 {s1 with heap:=h'}:=I1.kept (t':=s1.toks) hk
   refine⟨s1.heap.objs.size+4,_,_,_,H1,rfl,I2,Qjf b1 b2 _ (s1.heap.objs.size+2) (s1.heap.objs.size+3) s1.heap.objs.size (s1.heap.objs.size+1) a1 a2 (PyProof.Rows.zipApart_new p1.lt p2.lt),⟨hz,hTI,⟨_,_,hTO⟩,hi1,hi2⟩,λb hb=>?_,q⟩
   have hb':b=s1.heap.objs.size+4\/b=s1.heap.objs.size+2\/b=s1.heap.objs.size+3\/b=s1.heap.objs.size\/b=s1.heap.objs.size+1:=by simpa using hb
   have hle:s1.heap.objs.size<=b:=by rcases hb' with h|h|h|h|h <;> rw[h] <;> first|exact Ug _|exact Nat.le_add_right _ _
   exact I1.fpOk hle (I1.hok.fresh hle)
theorem Z1{K:Frag}{μ:List Addr}{H:Hp}{g:G}{v:V}{d:D}{b:Bool}{ds:List D}(r:GRep K ca μ H g)(q:Den K μ H v d)(h:QH g d=some (b,ds)):∃a vs,v=.ref a/\Sq b K H a vs/\Dens K μ H vs ds:=by
 cases q with
 |@tup a vs es ht hs=>cases h;exact⟨a,vs,rfl,ht,hs⟩
 |@fl a vs es ht hs=>cases h;exact⟨a,vs,rfl,ht.sq,hs⟩
 |@ref n a hn =>
  unfold QH at h
  dsimp only at h
  cases hg:g[n]? with
  |none=>rw[hg]at h;cases h
  |some o =>
   rw[hg]at h
   obtain⟨a',ha',ob⟩:=r.addr hg
   rw[hn]at ha';cases ha'
   cases o with
   |lst es=>cases h;obtain⟨vs,hH,q⟩:=ob;exact⟨a,vs,rfl,SqL.of hH,q⟩
   |_=>cases h
 |_=>cases h
theorem J7{K:Frag}{μ:List Addr}{H:Hp}{g g':G}{μ':List Addr}{H':Hp}{d:D}{v:V}{b b':Bool}{ds ds':List D}(h:QH g d=some (b,ds))(h':QH g' d=some (b',ds')):b=b':=by
 unfold QH at h h'
 cases d with
 |tup es=>cases h;cases h';rfl
 |fl es=>cases h;cases h';rfl
 |ref n =>
  dsimp only at h h'
  have k1:b=true:=by
   cases hg:g[n]? with
   |none=>rw[hg]at h;cases h
   |some o=>rw[hg]at h;cases o <;> cases h <;> rfl
  have k2:b'=true:=by
   cases hg:g'[n]? with
   |none=>rw[hg]at h';cases h'
   |some o=>rw[hg]at h';cases o <;> cases h' <;> rfl
  rw[k1,k2]
 |_=>cases h
theorem Qll{K:Frag}{μ:List Addr}{H:Hp}{g:G}{v1 v2:V}{d1 d2:D}{b1 b2:Bool}{xs ys:List D}{t:Nat}(q1:Den K μ H v1 d1)(q2:Den K μ H v2 d2)(h1:QH g d1=some (b1,xs))(h2:QH g d2=some (b2,ys)){a1 a2:Addr}(e1:v1=.ref a1)(e2:v2=.ref a2):
  Sim K ca μ H ⟨λg i=>(match QH g d1,QH g d2 with
  |some (_,xs),some (_,ys)=>(match xs[i]?,ys[i]? with
   |some x,some y=>some (some (.tup [x,y]))
   |_,_=>some none)
  |_,_=>none),t⟩ (Itz K b1 b2 a1 a2):=by
 intro i H1 μ1 g1 ex r
 dsimp only
 cases k1:QH g1 d1 with
 |none=>trivial
 |some p1 =>
  obtain⟨c1,xs1⟩:=p1
  cases k2:QH g1 d2 with
  |none=>trivial
  |some p2 =>
   obtain⟨c2,ys1⟩:=p2
   have f1:=J7 (K:=K) (μ:=μ) (H:=H) (μ':=μ) (H':=H) (v:=v1) h1 k1
   have f2:=J7 (K:=K) (μ:=μ) (H:=H) (μ':=μ) (H':=H) (v:=v1) h2 k2
   subst f1 f2
   obtain⟨z1,vs,w1,s1,d1s⟩:=Z1 r (q1.mono ex) k1
   obtain⟨z2,ws,w2,s2,d2s⟩:=Z1 r (q2.mono ex) k2
   rw[e1]at w1;cases w1
   rw[e2]at w2;cases w2
   dsimp only
   cases hx:xs1[i]? with
   |none =>
    refine⟨vs,ws,s1,s2,.inl ?_⟩
    rw[d1s.length];exact UP.mp hx
   |some x =>
    cases hy:ys1[i]? with
    |none =>
     refine⟨vs,ws,s1,s2,.inr ?_⟩
     rw[d2s.length];exact UP.mp hy
    |some y =>
     obtain⟨vx,hvx,qx⟩:=d1s.get hx
     obtain⟨vy,hvy,qy⟩:=d2s.get hy
     refine⟨⟨vs,ws,vx,vy,s1,s2,hvx,hvy⟩,λv H' yl=>?_⟩
     obtain⟨pp,x',y',hp,rfl,rfl,u1,u2⟩:=yl
     have:=u1 vs s1
     rw[hvx]at this;cases this
     have:=u2 ws s2
     rw[hvy]at this;cases this
     exact⟨Q8 hp,r.new hp,.tup (.of Qq) (.cons (qx.mono (Q8 hp)) (.cons (qy.mono (Q8 hp)) .nil))⟩
theorem Qn3(hm:X.mg "zip" = none)(h1:PE3 ca X e1 m1)(h2:PE3 ca X e2 m2)(hg:Gl X "zip":=by rfl)(hs:starEach [e1,e2] X.env=[(false,eval e1 X.env),(false,eval e2 X.env)]:=by rfl)(hs2:starEach [e2] X.env=[(false,eval e2 X.env)]:=by rfl)(hs3:starEach [e1,e2] X.env=(false,eval e1 X.env)::starEach [e2] X.env:=by rfl):PI3 ca X (.Tuple elts kk tp) (.Call (.Name "zip" p) [e1,e2] [] pos) (QfA m1 m2) :=
 λpn Φ=>JB (Qm2 (X:=xat X ca pn Φ) hg hm (ZR h1 (ZR h2 Qp hs2) hs3 pn Φ) hs hs2) λσ H R hQ=>by
  obtain⟨σ3,g,μ,Rp,q⟩:=hQ
  refine⟨σ3,g,μ,Rp,?_⟩
  unfold QfA at q
  unfold Qb mNil
  cases hm1:m1 σ3 g with
  |raise _ _=>rw[hm1]at q;exact q
  |stuck=>rw[hm1]at q;exact q.elim
  |ok d1 g1 =>
   rw[hm1,Res.bind_ok]at q
   rw[Res.bind_ok]
   cases hm2:m2 σ3 g1 with
   |raise _ _=>rw[hm2]at q;exact q
   |stuck=>rw[hm2]at q;exact q.elim
   |ok d2 g2 =>
    rw[hm2,Res.bind_ok]at q
    rw[Res.bind_ok,Res.bind_ok,Res.bind_ok]
    intro vs H1 μ1 ex r1 q1
    cases q1 with
    |@cons v1 _ _ _ n1 q1 =>
     cases q1 with
     |@cons v2 _ _ _ n2 q1 =>
      cases q1
      unfold Qfz at q
      cases k1:QH g2 d1 with
      |none=>rw[k1]at q;exact q.elim
      |some p1 =>
       obtain⟨b1,xs⟩:=p1
       cases k2:QH g2 d2 with
       |none=>rw[k1,k2]at q;exact q.elim
       |some p2 =>
        obtain⟨b2,ys⟩:=p2
        rw[k1,k2]at q
        obtain⟨a1,us,rfl,s1,_⟩:=Z1 r1 n1 k1
        obtain⟨a2,ts,rfl,s2,_⟩:=Z1 r1 n2 k2
        exact⟨b1,b2,a1,a2,us,ts,rfl,s1,s2,q _ H1 μ1 ex r1 (Qll n1 n2 k1 k2 rfl rfl)⟩
end
theorem JE(K:Frag)(t c:Ty):kitOne K (.type t.name) (.type c.name)=some (tyLe t c):=by
 cases t <;> cases c <;> kernel_rfl
section
variable{X:Cx}{ca:Nat->Addr}{a b c e:Expr}{ma mb mc me:ME}{pos p p2:Pos}{k:Nat}
theorem QhP(c:Ty):CallR X (.builtin "isinstance") (λxs H Q=>∃x g μ d t,xs=[x,.ty c.name]/\GRep X.K ca μ H g/\Den X.K μ H x d/\tyOf g d=some t/\Q (.bl (tyLe t c)) H):=by
 intro pins s σ H xs us Q I rv h
 obtain⟨x,g,μ,d,t,rfl,r,q,ht,qq⟩:=h
 obtain⟨u,u2,rfl,ru,ru2⟩:=rv.two
 cases ru2
 have fin:∀tk,EP X pins σ Q (.bool (tyLe t c)) {s with toks:=tk}:=λtk=>⟨.bl _,H,I.tok tk,rfl,qq⟩
 cases q with
 |non=>cases ht;exact Jb I ru .non (JE X.K .non c) fin
 |bl y=>cases ht;exact Jb I ru (.bl y) (JE X.K .bool c) fin
 |int y=>cases ht;exact Jb I ru (.int y) (JE X.K .int c) fin
 |str y=>cases ht;exact Jb I ru (.str y) (JE X.K .str c) fin
 |@tup a vs ds hq hs =>
  cases ht
  cases ru
  obtain⟨its,_,⟨o,h1,h2,_⟩,_⟩:=I.tuple hq
  exact UU kitx_tuple I.kIn ⟨o,h1,h2⟩ (JE X.K .tuple c) (λz=>nomatch z) fin
 |@fl a vs ds hq hs =>
  cases ht
  cases ru
  obtain⟨its,_,p,_⟩:=I.list hq.sq
  obtain⟨o,h1,h2,_⟩:=p.isList
  exact UU RS I.kIn ⟨o,h1,h2⟩ (JE X.K .list c) (λz=>nomatch z) fin
 |@ref n a hn =>
  unfold tyOf at ht
  dsimp only at ht
  cases hg:g[n]? with
  |none=>rw[hg]at ht;cases ht
  |some o =>
   rw[hg]at ht
   obtain⟨a',ha',ob⟩:=r.addr hg
   rw[hn]at ha';cases ha'
   cases o with
   |lst ds=>cases ht;obtain⟨vs,hH,_⟩:=ob;exact Jb I ru (.lst hH) (JE X.K .list c) fin
   |dct ks=>cases ht;obtain⟨kv,hH,_⟩:=ob;exact Jb I ru (.dK hH) (JE X.K .dict c) fin
   |ins _ _=>cases ht
   |exc _=>cases ht
   |dfz _=>cases ht
   |dcn _=>cases ht
theorem YR{x:Str}(c:Ty)(hi:X.mg "isinstance" = none)(hm:X.mg x=none)(hv:bootBuiltins x=some (.type c.name))(he:PE3 ca X e me)(hgi:Gl X "isinstance":=by rfl)(hg:Gl X x:=by rfl)(hnm:x ≠ "__name__":=by decide)(hdb:(x == ("__debug__" : Str))=false:=by decide)(hs:starEach [e,.Name x p2] X.env=(false,eval e X.env)::starEach [.Name x p2] X.env:=by rfl)(hs2:starEach [.Name x p2] X.env=(false,eval (.Name x p2) X.env)::starEach [] X.env:=by rfl)(hpl:(backTo pos (starEach [.Name x p2] X.env)).any (·.1)=false:=by rfl):
  PE3 ca X (.Call (.Name "isinstance" p) [e,.Name x p2] [] pos) (mOp1 (Jp c) me) :=
 λpn Φ=>Zf (Qc1 (X:=xat X ca pn Φ) (QhP (ca:=ca) c) hgi hi boot_isinstance (QeI (X:=xat X ca pn Φ) (he pn Φ) (QeI (X:=xat X ca pn Φ) (QkQ (X:=xat X ca pn Φ) (v:=.ty c.name) hg hm hv rfl hnm hdb) Qki hs2) hs) (by decide) (by decide) hs hpl) λσ H Q ⟨σ3,g,μ,R,q⟩ =>
  Zm (Jy R q) λy H1 hQ=>by
   obtain⟨d,g1,μ1,e1,R1,q1,p1⟩:=hQ
   unfold Jp at p1
   cases ht:tyOf g1 d with
   |none=>rw[ht]at p1;exact p1.elim
   |some t=>rw[ht]at p1;exact⟨y,g1,μ1,d,t,rfl,R1.g,q1,ht,p1 _ H1 μ1 .refl R1.g (.bl _)⟩
theorem QfN{K:Frag}{μ:List Addr}{H:Hp}:∀{vs:List V}{ds:List D}{us:List Value}{b:Bool},Dens K μ H vs ds->Vals vs us->allB ds=some b->∃bs:List Bool,us=bs.map Value.bool/\bs.all id=b
 |_,_,_,b,.nil,.nil,h=>by cases h;exact⟨[],rfl,rfl⟩
 |_,_,_,b,@Dens.cons _ _ _ _ _ _ ds q qs,.cons r rs,h=>by
  cases q with
  |bl c =>
   unfold allB at h
   cases hd:allB ds with
   |none=>rw[hd]at h;cases h
   |some d =>
    rw[hd]at h
    cases h
    obtain⟨bs,h1,h2⟩:=QfN qs rs hd
    cases r
    exact⟨c::bs,by rw[h1];rfl,by simp[h2]⟩
  |_=>cases h
theorem QhQ(bs:List Bool):((List.range bs.length).all λi=>(bs[i]?).getD true)=bs.all id:=by
 rw[Ts,Th,Th]
 constructor
 ·intro h b hb
  obtain⟨i,hi,rfl⟩:=List.getElem_of_mem hb
  have:=h i (T1.mpr hi)
  simpa[hi]using this
 ·intro h i hi
  have hi':=T1.mp hi
  have:=h bs[i] (UZ hi')
  simpa[hi']using this
theorem QhR(hc:X.calm=true):CallR X (.builtin "all") (λxs H Q=>∃p vs ds μ b,xs=[.ref p]/\SqL X.K H p vs/\Dens X.K μ H vs ds/\allB ds=some b/\Q (.bl b) H):=by
 intro pins s σ H xs us Q I rv h
 obtain⟨l,vs,ds,μ,b,rfl,hq,q,hb,qq⟩:=h
 obtain⟨u,rfl,ru⟩:=rv.one
 cases ru
 obtain⟨its,rs,pl,_⟩:=I.list hq
 obtain⟨bs,rfl,e2⟩:=QfN q rs hb
 have hl:=pl.isList
 have hlt:l<s.heap.objs.size:=by obtain⟨_,e,_⟩:=hl;exact Uk e
 refine call_all_walk (RU hl ⟨s.heap.objs.size,[s.heap.objs.size,l],[s.heap.objs.size],_,_,_,λi=>(bs[i]?).getD true,rfl,Walks.list (A:=X.A.in1) (show X.A.in1.handled=none from I.ok.hd hc) _ l (UE hlt) _,⟨⟨_,Ul _ rfl,rfl,rfl⟩,hl.push _⟩,λi v s' Q' E' hP hQ=>?_,λh' tk hk=>?_⟩)
 ·have hP:(bs.map Value.bool).toArray[i]?=some v:=hP
  rw[Rl,UK]at hP
  cases hi:bs[i]? with
  |none=>rw[hi]at hP;cases hP
  |some c =>
   rw[hi]at hP
   cases hP
   simp only[hi,Option.getD_some]at hQ
   exact U9 hQ
 ·have kept:∀c o,s.heap.get? c=some o->h'.get? c=some o:=λc o e=>hk c o (λhm=>by rw[Uf.mp hm]at e;exact Ti _ (Uk e)) (Ub _ e)
  have ea:((List.range (bs.map Value.bool).toArray.size).all λi=>(bs[i]?).getD true)=b:=by
   rw[Uo,Um,QhQ,e2]
  rw[ea]
  exact⟨.bl b,H,I.kept kept,rfl,qq⟩
theorem Qjg(hc:X.calm=true)(hm:X.mg "all" = none)(he:PE3 ca X e me)(hg:Gl X "all":=by rfl)(hs:starEach [e] X.env=[(false,eval e X.env)]:=by rfl)(hpl:(backTo pos (starEach [] X.env)).any (·.1)=false:=by rfl):
  PE3 ca X (.Call (.Name "all" p) [e] [] pos) (mOp1 pAll me) :=
 QhM (r:=λxs H Q=>∃p vs ds μ b,xs=[V.ref p]/\SqL X.K H p vs/\Dens X.K μ H vs ds/\allB ds=some b/\Q (.bl b) H) (λpn Φ=>QhR (X:=xat X ca pn Φ) hc) hm boot_all (λΦ σ H μ g y d Q r q pp=>by
  unfold pAll at pp
  cases q with
  |@ref n t hn =>
   dsimp only at pp
   cases hgn:g[n]? with
   |none=>rw[hgn]at pp;exact pp.elim
   |some ob =>
    rw[hgn]at pp
    obtain⟨t',ht',orp⟩:=r.addr hgn
    rw[hn]at ht';cases ht'
    cases ob with
    |lst ds =>
     obtain⟨vs,hH,q⟩:=orp
     dsimp only at pp
     cases hb:allB ds with
     |none=>rw[hb]at pp;exact pp.elim
     |some b=>rw[hb]at pp;exact⟨t,vs,ds,μ,b,rfl,.of hH,q,hb,pp _ H μ .refl r (.bl _)⟩
    |_=>exact pp.elim
  |_=>exact pp.elim) he hg (by decide) (by decide) hs hpl
theorem Qjh{K:Frag}{Φ:XS}{r r':R2}{f f':D->D->G->Res D}(h1:Y4 K ca r f)(h2:Y4 K ca r' f')(σ:L2.St)(H:Hp)(Q:VK)(h:up K ca Φ (QcO f f' ma mb mc) σ H Q):Qkh r r' (up K ca Φ ma) (up K ca Φ mb) (up K ca Φ mc) σ H Q:=by
 obtain⟨σ3,g,μ,R,p⟩:=h
 refine Zm (Jy R p) λx H1 ⟨dx,g1,μ1,e1,R1,q1,p1⟩=>?_
 refine Zm (Jy R1 p1) λy H2 ⟨dy,g2,μ2,e2,R2,q2,p2⟩=>?_
 refine h1 Φ σ H2 μ2 g2 x y dx dy _ R2.g (q1.mono e2) q2 ?_
 cases hf:f dx dy g2 with
 |raise _ _=>rw[hf]at p2;exact p2
 |stuck=>rw[hf]at p2;exact p2.elim
 |ok z g3 =>
  rw[hf,Res.bind_ok]at p2
  intro v H3 μ3 e3 r3 q3
  cases q3 with
  |bl t =>
   refine⟨t,rfl,?_⟩
   cases t with
   |true =>
    rw[Uc rfl]
    dsimp only at p2
    refine Zm (Jy (R2.go e3 r3) (p2.go e3)) λw' H4 ⟨dw,g4,μ4,e4,R4,q4,p4⟩=>?_
    exact h2 Φ σ H4 μ4 g4 y w' dy dw Q R4.g ((q2.mono e3).mono e4) q4 p4
   |false =>
    rw[Uh Ud]
    exact p2 _ H3 μ3 e3 r3 (.bl _)
  |_=>exact p2.elim
theorem Qm3(ha:PE3 ca X a ma)(hb:PE3 ca X b mb)(hc:PE3 ca X c mc)(hm:lastMarks [.LtE,.Lt] [b,c]=false:=by with_unfolding_all rfl):PE3 ca X (.Compare a [.LtE,.Lt] [b,c] pos) (QcO pLe pLt ma mb mc) :=
 λpn Φ=>Zf (Qi0 (X:=xat X ca pn Φ) QkY Qmz (ha pn Φ) (hb pn Φ) (hc pn Φ) hm) (Qjh (Yp _) (Yp _))
theorem Qkt{K:Frag}{μ:List Addr}{H:Hp}{v:V}{d:D}(q:Den K μ H v d)(h:QcC d=true):QcA v=true:=by cases q <;> first|rfl|cases h
theorem QhS{K:Frag}{μ:List Addr}{H:Hp}:∀{vs:List V}{ds:List D},Dens K μ H vs ds->ds.all QcC=true->vs.all QcA=true
 |_,_,.nil,_=>rfl
 |_,_,.cons q qs,h=>by
  rw[T6,UD]at h ⊢
  exact⟨Qkt q h.1,QhS qs h.2⟩
theorem Qn4{K:Frag}{μ:List Addr}{H:Hp}{v w:V}{d e:D}(q:Den K μ H v d)(q':Den K μ H w e)(h:QcC d=true)(h':QcC e=true):eqV v w=eqF d e:=by
 cases q <;> cases q' <;> first|rfl|cases h|cases h'
theorem Qm4{K:Frag}{μ:List Addr}{H:Hp}{w:V}{e:D}(q':Den K μ H w e)(h':QcC e=true):∀{vs:List V}{ds:List D},Dens K μ H vs ds->ds.all QcC=true->(vs.any λy=>eqV y w)=ds.any λd=>eqF d e
 |_,_,.nil,_=>rfl
 |_,_,.cons q qs,h=>by
  rw[T6,UD]at h
  rw[Tz,Tz,Qn4 q q' h.1 h',Qm4 q' h' qs h.2]
theorem Qlm{K:Frag}(neg:Bool):Y4 K ca (rIn K neg) (pIn neg):=by
 intro Φ σ H μ g x y dx dy Q r qx qy p
 unfold pIn at p
 cases hs:QH g dy with
 |none=>rw[hs]at p;exact p.elim
 |some pr =>
  obtain⟨bb,ds⟩:=pr
  rw[hs]at p
  dsimp only at p
  by_cases z:QcC dx=true/\ds.all QcC=true
  ·rw[Uc z]at p
   obtain⟨a,vs,rfl,sq,qs⟩:=Z1 r qy hs
   refine⟨a,vs,rfl,?_,Qkt qx z.1,QhS qs z.2,p _ H μ .refl r ?_⟩
   ·cases bb
    ·exact .inr sq
    ·exact .inl sq
   ·unfold inV
    rw[Qm4 qx z.1 qs z.2]
    cases neg <;> exact .bl _
  ·rw[Uh z]at p;exact p.elim
theorem r_in(ha:PE3 ca X a ma)(hb:PE3 ca X b mb)(hm:behindInMarks .In b=false:=by rfl):PE3 ca X (.Compare a [.In] [b] pos) (mOp2 (pIn false) ma mb):=Qd0 (λ_ _=>Qhl) (Qlm false) ha hb hm
end
section
variable{prog:Program}{w:World}{A:Around}{E:Value->Shared->Prop}{s:Shared}
end
theorem Qm5(n d:Nat)(o:Option Int):HT.sIx n d o=sIxD n d o:=by cases o <;> rfl
theorem Dens.cut{K:Frag}{μ:List Addr}{H:Hp}{vs:List V}{ds:List D}(lo hi:Option Int)(h:Dens K μ H vs ds):Dens K μ H (cutV vs lo hi) (cutD ds lo hi):=by
 unfold cutV cutD
 rw[Qm5,Qm5,h.length]
 exact(h.drop _).take _
section
variable{X:Cx}{ca:Nat->Addr}{e:Expr}{me:ME}{lo hi:Option Expr}{ml mh:MO}{pos p2:Pos}
noncomputable def upO(K:Frag)(ca:Nat->Addr)(Φ:XS)(m:MO):TO:=λσ H Q=>∃σ3 g μ,Rep K ca μ σ3 g σ H/\match m σ3 g with
 |.ok o g'=>∀H' μ',Ext K μ H μ' H'->GRep K ca μ' H' g'->Q o H'
 |.raise x g'=>RaP K ca Φ σ H μ x g'
 |.stuck=>False
def PO3(ca:Nat->Addr)(X:Cx)(e:Option Expr)(m:MO):Prop:=∀pn Φ,PO (xat X ca pn Φ) e (upO X.K ca Φ m)
theorem Qku(he:PE3 ca X e me):PO3 ca X (some e) (QcB me):=λpn Φ pins s σ H Q I hQ=>by
 obtain⟨σ3,g,μ,R,p⟩:=hQ
 refine Qk5 (X:=xat X ca pn Φ) (he pn Φ) pins s σ H Q I ⟨σ3,g,μ,R,?_⟩
 unfold QcB at p
 cases hm:me σ3 g with
 |raise _ _=>rw[hm]at p;exact p
 |stuck=>rw[hm]at p;exact p
 |ok d g1 =>
  rw[hm,Res.bind_ok]at p
  intro v H1 μ1 e1 r1 q1
  cases q1 with
  |int i=>exact⟨i,rfl,p H1 μ1 e1 r1⟩
  |_=>exact p.elim
theorem Qln(he:PE3 ca X e me)(hl:PO3 ca X lo ml)(hh:PO3 ca X hi mh):PE3 ca X (.Subscript e (.Slice lo hi none p2) pos) (QcP me ml mh):=λpn Φ =>
 Zf (Qi3 (X:=xat X ca pn Φ) Qk7 (he pn Φ) (hl pn Φ) (hh pn Φ)) λσ H Q ⟨σ3,g,μ,R,p⟩=>Zm (Jy R p) λx H1 hQ=>by
  obtain⟨d,g1,μ1,e1,R1,q1,p1⟩:=hQ
  refine⟨σ3,g1,μ1,R1,?_⟩
  cases hm:ml σ3 g1 with
  |raise _ _=>rw[hm]at p1;exact p1
  |stuck=>rw[hm]at p1;exact p1
  |ok l g2 =>
   rw[hm,Res.bind_ok]at p1
   intro H2 μ2 e2 r2
   refine⟨σ3,g2,μ2,R1.go e2 r2,?_⟩
   cases hm2:mh σ3 g2 with
   |raise _ _=>rw[hm2]at p1;exact RaP.go e2 p1
   |stuck=>rw[hm2]at p1;exact p1
   |ok u g3 =>
    rw[hm2,Res.bind_ok]at p1
    intro H3 μ3 e3 r3
    have p3:=Post.go (e2.trans e3) p1
    have q3:=(q1.mono e2).mono e3
    unfold Qhp at p3
    cases q3 with
    |@ref n a hn =>
     dsimp only at p3
     cases hg:g3[n]? with
     |none=>rw[hg]at p3;exact p3.elim
     |some o =>
      rw[hg]at p3
      obtain⟨a',ha',ob⟩:=r3.addr hg
      rw[hn]at ha';cases ha'
      cases o with
      |lst ds =>
       obtain⟨vs,hH,hs⟩:=ob
       refine⟨a,vs,rfl,.of hH,λt ht'=>p3 _ _ (μ3++[t]) (QS ht') (r3.push ht' ⟨_,Qq,(hs.cut l u).mono (QS ht')⟩) (.ref ?_)⟩
       rw[<-r3.len];simp
      |_=>exact p3.elim
    |_=>exact p3.elim
end
section
variable{prog:Program}{w:World}{A:Around}{E:Value->Shared->Prop}{s:Shared}{K:Frag}{C e:Addr}{oe:Obj}{vs:Array Value}
end
section
variable{X:Cx}{ca:Nat->Addr}{e:Expr}{me:ME}{pos p p2:Pos}{all cs:List Nat}
end
section
variable{K:Frag}{C:Addr}{x:Str}{mg:Str->Option Value}{h:Heap}
end
section
variable{X:Cx}{ca:Nat->Addr}{e:Expr}{es:List Expr}{mr:MA}{np cpos pos:Pos}{c:Nat}{x:Str}
end
section
variable{prog:Program}{w:World}{A:Around}{E:Value->Shared->Prop}{s:Shared}{K:Frag}{ca:Nat->Addr}{C D e:Addr}{oe:Obj}{cs no:List Nat}{b:Bool}
end
section
variable{X:Cx}{ca:Nat->Addr}{pins:List (Addr×Obj)}{σ:L2.St}{H:Hp}{s:Shared}{a:Addr}{x:Xc}
end
section
variable{X:Cx}{ca:Nat->Addr}{body suite:List Stmt}{b0:Stmt}{mb mc:MS}{np hpos pos:Pos}{C:Addr}{cs no:List Nat}{T n:Str}
end
noncomputable def bchk(sc scope:Scope)(N Nb:List Str)(no:Nat)(cap:List Nat):Bool :=
 decide (scope.kind=.function) && scope.names.all (λy=>decide (y.2≠.cell)) && scope.names.all (λy=>decide (y.2≠.local) || decide (scope.names.lookup y.1=some .local)) &&
 scope.names.all (λy=>decide (y.2≠.free) || decide (sc.names.lookup y.1=some .cell) || decide (sc.names.lookup y.1=some .free)) && decide (Nb.length=no+cap.length) &&
 (List.range cap.length).all λj=>match cap[j]?,Nb[no+j]? with
  |some i,some x=>decide (N[i]?=some x) && decide (scope.names.lookup x=some .free) && (decide (sc.names.lookup x=some .cell) || decide (sc.names.lookup x=some .free))
  |_,_=>false
theorem Zh{X:Cx}{scope sc:Scope}{N Nb:List Str}{no:Nat}{cap:List Nat}(hsc:X.env.scope=sc)(hN:X.N=N)(h:bchk sc scope N Nb no cap=true):BScope X scope Nb no cap:=by
 subst hsc hN
 unfold bchk at h
 simp only[UD,UO]at h
 obtain⟨⟨⟨⟨⟨h1,h2⟩,h3⟩,h4⟩,h5⟩,h6⟩:=h
 rw[Th]at h2 h3 h4 h6
 refine⟨h1,λy hy=>UI (h2 y hy),λy hy e=>?_,λy hy e=>?_,h5,λj i hj=>?_⟩
 ·rcases RD.mp (h3 y hy) with z|z
  ·exact absurd e (UI z)
  ·exact UI z
 ·rcases RD.mp (h4 y hy) with z|z
  ·rcases RD.mp z with z|z
   ·exact absurd e (UI z)
   ·exact .inl (UI z)
  ·exact .inr (UI z)
 ·have hl:j<cap.length:=(Ue.mp hj).1
  have z:=h6 j (T1.mpr hl)
  rw[hj]at z
  cases hx:Nb[no+j]? with
  |none=>rw[hx]at z;cases z
  |some x =>
   rw[hx]at z
   simp only[UD,Bool.or_eq_true,UO]at z
   obtain⟨⟨z1,z2⟩,z3⟩:=z
   refine⟨x,rfl,z1,z2,.inr z3,λq=>?_⟩
   have q:X.env.scope.names.lookup x=some .local:=q
   rcases z3 with z|z
   ·rw[z]at q;cases q
   ·rw[z]at q;cases q
noncomputable def clsB(K:Frag)(C:Addr):Bool:=plainGet K C Str.empty && hasDictIn K C && plainOver K C && (findIn K (.ref C) "__setattr__" == some (some (.builtin "object.__setattr__")))
theorem QaK{K:Frag}{C:Addr}(h:clsB K C=true):Cls K C:=by
 unfold clsB at h
 simp only[UD,Td]at h
 obtain⟨⟨⟨h1,h2⟩,h3⟩,h4⟩:=h
 exact⟨h1,h2,h3,h4⟩
noncomputable def fldB(K:Frag)(ca:Nat->Addr)(cs:List Nat)(f:Str):Bool:=cs.all λc=>clsB K (ca c) && (findIn K (.ref (ca c)) f == some none)
theorem Qd8{K:Frag}{ca:Nat->Addr}{cs:List Nat}{f:Str}(h:fldB K ca cs f=true):FldOk K ca cs f:=by
 unfold fldB at h
 rw[Th]at h
 exact⟨λc hc=>QaK (WH.mp (h c hc)).1,λc hc=>Td.mp (WH.mp (h c hc)).2⟩
section
variable{X:Cx}{ca:Nat->Addr}{pos:Pos}{x:Str}
theorem Qb2{t:Str}(h:∃k,X.mg x=some (.str t k))(hg:Gl X x:=by rfl)(hd:(x == ("__debug__" : Str))=false:=by decide):PE3 ca X (.Name x pos) (mLit (.str t)):=by
 obtain⟨k,h⟩:=h
 exact Qko h (v:=.str t) ⟨k,rfl⟩ (λ_ _ _=>.str t) hg hd
theorem Qkv{i:Int}(h:∃k,X.mg x=some (.int i k))(hg:Gl X x:=by rfl)(hd:(x == ("__debug__" : Str))=false:=by decide):PE3 ca X (.Name x pos) (mLit (.int i)):=by
 obtain⟨k,h⟩:=h
 exact Qko h (v:=.int i) ⟨k,rfl⟩ (λ_ _ _=>.int i) hg hd
end
theorem Qkw:bootBuiltins "int" = some (.type Ty.int.name):=boot_int
theorem QhT:bootBuiltins "bool" = some (.type Ty.bool.name):=by decide +kernel
theorem Qkx:bootBuiltins "str" = some (.type Ty.str.name):=by decide +kernel
theorem QaL:bootBuiltins "tuple" = some (.type Ty.tuple.name):=boot_tuple
theorem QeT:bootBuiltins "list" = some (.type Ty.list.name):=boot_list
section
variable{P:Program}{w:World}{K:Frag}{mg:Str->Option Value}{base:Heap}{ca:Nat->Addr}
theorem Qlo{f:Addr}{fd:FuncData}{ps:List Str}{k n:Nat}(hn:ps.length=n):FnOk P w K mg base (CXW P w ca) k f fd ps (spM K ca n λ_ _=>.stuck):=by
 subst hn
 exact⟨λvs H Q E q=>q.1,λA outer s H args us vs Q E _ _ _ _ h=>by obtain⟨_,_,_,_,_,_,z⟩:=h;exact z.elim⟩
theorem Qm6{F:MF}{H:Hp}{a:Addr}{ns:List Int}(hO:Only H)(hS:SqL K H a (ns.map V.int))(h:∃g',F [.fl (ns.map D.int)] []=.ok (.bl true) g'):spM K ca 1 F [.ref a] H (λv _=>v=.bl true) λ_ _ _=>False:=by
 obtain⟨g',h⟩:=h
 have hF:SqF K H a (ns.map V.int):=by
  rcases hS with(h|⟨o,h⟩)|h
  ·rcases hO a with z|⟨o,xs,z⟩
   ·rw[h]at z;cases z
   ·rw[h]at z;cases z
  ·exact .inl ⟨o,h⟩
  ·exact .inr (.inr h)
 refine⟨rfl,[.fl (ns.map D.int)],[],[],⟨rfl,.nil,λn a o h=>by simp at h⟩,.cons (.fl hF (Dens.ints ns)) .nil,?_⟩
 rw[h]
 intro v H' μ' e r q
 cases q
 rfl
end
end L3
namespace L3
open PySem PySem.Spec
section
theorem len0{α:Type}{us:List α}(h:us.length=0):us=[]:=List.eq_nil_of_length_eq_zero h
theorem len1{α:Type}{us:List α}(h:us.length=1):∃a0,us=[a0]:=by
 cases us with
 |nil=>cases h
 |cons a r =>
  have e:=len0 (Nat.succ.inj h)
  subst e
  exact⟨a,rfl⟩
theorem len2{α:Type}{us:List α}(h:us.length=2):∃a0 a1,us=[a0,a1]:=by
 cases us with
 |nil=>cases h
 |cons a r =>
  obtain⟨b0,rfl⟩:=len1 (Nat.succ.inj h)
  exact⟨a,b0,rfl⟩
theorem len3{α:Type}{us:List α}(h:us.length=3):∃a0 a1 a2,us=[a0,a1,a2]:=by
 cases us with
 |nil=>cases h
 |cons a r =>
  obtain⟨b0,b1,rfl⟩:=len2 (Nat.succ.inj h)
  exact⟨a,b0,b1,rfl⟩
theorem len4{α:Type}{us:List α}(h:us.length=4):∃a0 a1 a2 a3,us=[a0,a1,a2,a3]:=by
 cases us with
 |nil=>cases h
 |cons a r =>
  obtain⟨b0,b1,b2,rfl⟩:=len3 (Nat.succ.inj h)
  exact⟨a,b0,b1,b2,rfl⟩
noncomputable def Qky:Expr->Bool
 |.Starred ..=>false
 |_=>true
theorem QhU{e:Expr}{es:List Expr}{env:Env}(h:Qky e=true):starEach (e::es) env=(false,eval e env)::starEach es env:=by
 cases e <;> first|rfl|exact absurd h Ud
variable{P:Program}{w:World}{K:Frag}{mg:Str->Option Value}{base:Heap}{ca:Nat->Addr}{X:L2.Cx}
theorem Qe{e:Expr}{es:List Expr}{me:ME}{mr:MA}(ha:PE3 ca X e me)(hr:PA3 ca X es mr)(hs:Qky e=true:=by rfl):PA3 ca X (e::es) (Qb me mr):=ZR ha hr (QhU hs)
noncomputable def Qkz:Expr->Bool
 |.ListComp ..=>false
 |.SetComp ..=>false
 |.DictComp ..=>false
 |_=>true
theorem Qlp{e:Expr}{t:Option Expr}{l:Nat}{env:Env}(h:Qkz e=true):swapsWith e t l env=pure false:=by
 cases e <;> first|rfl|exact absurd h Ud
theorem QO(i:Nat){x:Str}{pos pos':Pos}{e:Expr}{me:ME}(hN:X.N.Nodup)(he:PE3 ca X e me)(hi:X.N[i]?=some x:=by rfl)(hx:L2.Loc X.env.scope x:=by first|exact Or.inl rfl|exact Or.inr rfl)(hs:Qkz e=true:=by rfl)(hf:X.fn x=true\/X.env.scope.names.lookup x=some .local:=by first|exact .inl rfl|exact .inr rfl):
  PS3 ca X (.Assign [.Name x pos'] e pos) (mAsg (gSet i) me):=Qn1 i hN he hi hx (Qlp hs) hf
end
end L3
section
namespace PySem
namespace F
theorem Qd9:Manifest.owners.lookup (String.ofList ['d','e','s','r','e','v','e','r'].reverse)=some Manifest.sig_reversed:=by kernel_rfl
theorem slot_rev_next:Slot "reversed" "__next__" "reversed.__next__" :=
 .of (owner:="reversed") (n:="__next__") (by rw[TM,Ta];kernel_rfl) (by decide +kernel) (by decide +kernel) (by decide +kernel)
  (by first|exact .inl (by decide +kernel)|exact .inr (by decide +kernel)) (by rw[Ri];kernel_rfl)
theorem entry_rev_next:entryFor table "reversed.__next__" = some Builtin.«reversed.__next__»:=entryFor_of_tree (by kernel_rfl)
theorem args_rev_next_1(a:Value):argsOk "reversed.__next__" ⟨[a],[]⟩:=by
 unfold argsOk;rw[signature?_of (id:="reversed.__next__") (n:=['_','_','t','x','e','n','_','_']) (o:=['d','e','s','r','e','v','e','r']) (by kernel_rfl) Qd9];kernel_rfl
theorem slot_rev_iter:Slot "reversed" "__iter__" "reversed.__iter__" :=
 .of (owner:="reversed") (n:="__iter__") (by rw[TM,Ta];kernel_rfl) (by decide +kernel) (by decide +kernel) (by decide +kernel)
  (by first|exact .inl (by decide +kernel)|exact .inr (by decide +kernel)) (by rw[Ri];kernel_rfl)
theorem args_rev_iter_1(a:Value):argsOk "reversed.__iter__" ⟨[a],[]⟩:=by
 unfold argsOk;rw[signature?_of (id:="reversed.__iter__") (n:=['_','_','r','e','t','i','_','_']) (o:=['d','e','s','r','e','v','e','r']) (by kernel_rfl) Qd9];kernel_rfl
theorem entry_rev_iter:entryFor table "reversed.__iter__" = some Builtin.«dict_keyiterator.__iter__» :=
 entryFor_alias (id':="dict_keyiterator.__iter__") (by kernel_rfl) (by first|rfl|decide +kernel|(unfold String.splitOn;simp +decide [String.splitOnAux])) (by decide +kernel) (by kernel_rfl)
theorem Qde:Slot "reversed" "__init__" "object.__init__" :=
 .of (owner:="object") (n:="__init__") (by rw[TM,Ta];kernel_rfl) (by decide +kernel) (by decide +kernel) (by decide +kernel)
  (by first|exact .inl (by decide +kernel)|exact .inr (by decide +kernel)) (by rw[Ri];kernel_rfl)
theorem called_rev:TypeCalled "reversed" "reversed.__new__" "object.__init__" :=
 ⟨by decide +kernel,by decide +kernel,⟨_,_,mro_reversed⟩,made_reversed,by decide +kernel,sub_reversed_self,Qde⟩
theorem no_tuple_reversed:typeLookup (.type "tuple") "__reversed__" = pure none:=by rw[TM,Ta];kernel_rfl
theorem tuple_getitem:typeLookup (.type "tuple") "__getitem__" = pure (some (.builtin "tuple.__getitem__")):=by rw[TM,Ta];kernel_rfl
theorem tuple_dict:isSubtype (.type "tuple") (.type "dict")=pure false:=by rw[Ri];kernel_rfl
end F
end PySem
end
namespace L3
open PySem PySem.Spec PyProof.Rows PySem.Calls
section
variable{prog:Program}{w:World}{A:Around}{E:Value->Shared->Prop}{s:Shared}
noncomputable def revT(l:Addr)(i:Int):Obj:={cls:=.type "reversed",data:=.fields #[.ref l,rawInt i]}
def IsRevT(h:Heap)(a l:Addr)(i:Int):Prop:=∃o,h.get? a=some o/\o.cls=.type "reversed" /\ o.data=.fields #[.ref l,rawInt i]
theorem IsRevT.typeIs{a l:Addr}{i:Int}(x:IsRevT s.heap a l i):s.TypeIs (.ref a) "reversed":=let ⟨o,ho,hc,_⟩:=x;⟨o,ho,hc⟩
theorem IsRevT.at{h h':Heap}{a l:Addr}{i:Int}(x:IsRevT h a l i)(e:∀o,h.get? a=some o->h'.get? a=some o):IsRevT h' a l i:=let ⟨o,ho,r⟩:=x;⟨o,e _ ho,r⟩
theorem Qgy(l:Addr)(items:Array Value):MeetsIn prog w (Builtin.«reversed.__new__» ⟨[.type "reversed",.ref l],[]⟩) (λA R s=>IsTup s.heap l items/\(items.size:Int)<2^63/\∀tk,R (.ok (.ret (.ref s.heap.objs.size))) {s with heap:=s.heap.push (revT l ((items.size:Int) - 1)),toks:=tk}):=by
 intro A R s ⟨hl,hz,h⟩
 unfold Builtin.«reversed.__new__»
 refine Ua (TY (newClass_reversed _) ?_)
 try dsimp only
 refine Ua (TY (a:=()) (by first|rfl|kernel_rfl) ?_)
 refine Ua (TY (a:=()) (by first|rfl|kernel_rfl) ?_)
 try dsimp only
 refine Ua (Tt hl.typeIs F.no_tuple_reversed ?_)
 try dsimp only
 refine Ua (show wpAny _ _ (isInstance (.ref l) (.type "dict") >>= _) _ _ _ from Ua (TV hl.typeIs F.tuple_dict ?_))
 try dsimp only
 rw[Uh Ud]
 refine Ua (Tt hl.typeIs F.tuple_getitem ?_)
 try dsimp only
 rw[Uc (by decide)]
 refine Uj ?_
 rw[Uh (by decide)]
 refine Ua (len_tuple hl hz ?_)
 refine Ua (TY (a:=some (items.size:Int)) (by rfl) ?_)
 try dsimp only
 refine Ua (show wpAny _ _ (newObj (.type "reversed") (.fields #[Value.ref l,rawInt ((items.size:Int) - 1)])) _ _ _ from U2 ?_ (by size_fits))
 exact Uj (h _)
theorem Qar{l:Addr}{items:Array Value}{Q:Value->Shared->Prop}(hl:IsTup s.heap l items)(hz:(items.size:Int)<2^63)(h:∀tk,Q (.ref s.heap.objs.size) {s with heap:=s.heap.push (revT l ((items.size:Int) - 1)),toks:=tk}):wpAny (model prog w) A (call (.type "reversed") [.ref l]) Q E s :=
 callType_newIn F.called_rev (by decide) (F.typeCall_reversed_1 _) (F.newCall_reversed_1 _) (λobj=>F.args_object_init_2 obj _) F.entry_reversed_new (Qgy l items) ⟨hl,hz,λtk=>⟨⟨_,Ul _ rfl,rfl⟩,h tk⟩⟩
theorem Qb3{it l:Addr}{i:Int}{Q:Value->Shared->Prop}(hit:IsRevT s.heap it l i)(h:Q (.ref it) s):wpAny (model prog w) A (pyIter (.ref it)) Q E s:=by
 refine wpAny_pyIter_slot hit.typeIs F.slot_rev_iter (Tg F.slot_rev_iter hit.typeIs F.entry_rev_iter ?_ (F.args_rev_iter_1 _))
 show wpAny _ _ (ret (.ref it)) _ _ s
 exact Uj ⟨_,rfl, "reversed",_,hit.typeIs,F.slot_rev_next.lookup,h⟩
theorem Qby{it l:Addr}{i:Nat}{items:Array Value}{x:Value}{Q:Option Value->Shared->Prop}(hit:IsRevT s.heap it l (i:Int))(hl:IsTup s.heap l items)(hx:items[i]?=some x)(hz:(items.size:Int)<2^63)(hQ:∀h' tk,IsRevT h' it l ((i:Int) - 1)->Heap.SameBut it s.heap h'->Q (some x) {s with heap:=h',toks:=tk}):wpAny (model prog w) A (pyNext (.ref it)) Q E s:=by
 obtain⟨o,ho,hc,hd⟩:=id hit
 have hi:i<items.size:=(U4.mp hx).1
 unfold pyNext
 refine Ua (Rt (Tf (name:=Str.ofString "__next__") hit.typeIs F.slot_rev_next
  (Tg F.slot_rev_next hit.typeIs F.entry_rev_next ?_ (F.args_rev_next_1 _))))
 unfold Builtin.«reversed.__next__»
 refine Ua (TY (a:=(Value.ref it,[])) rfl ?_)
 try dsimp only
 refine Ua (UM ho hd (x:=.ref l) rfl ?_)
 refine Ua (UM ho hd (x:=rawInt (i:Int)) rfl ?_)
 show wpAny _ _ (if (i:Int)<0 then _ else _) _ _ s
 rw[Uh (by omega)]
 refine Ua (Tt hl.typeIs F.tuple_getitem ?_)
 try dsimp only
 rw[Uh (by decide)]
 refine Ua (wpAny_mkInt ?_)
 refine Ua (Rt (getItem_tuple (k:=(i:Int)) (j:=i) (x:=x) (items:=items) hl (by omega) (by omega) ?_ hx ?_))
 ·unfold seqIndex?
  have e0:¬((i:Int)<0):=by omega
  simp only[e0,Rm]
  simp
  exact hi
 try dsimp only
 refine Ua (UM ho hd (x:=rawInt (i:Int)) rfl ?_)
 try dsimp only
 refine Ua (TK ho hd (by simp) ?_)
 first
 |refine Uj ⟨x,rfl,Uj (hQ _ _ ?_ (Tw ..))⟩
 |refine Ua (Uj (Uj ⟨x,rfl,Uj (hQ _ _ ?_ (Tw ..))⟩))
 exact⟨_,TH _ ho (TZ (Tk hd _)),(RT ..).trans hc,by
  rw[Tk hd];simp⟩
theorem Qb4{it l:Addr}{Q:Option Value->Shared->Prop}(hh:A.handled=none)(hit:IsRevT s.heap it l (-1))(hQ:∀h' tk,Heap.ExtBut it s.heap h'->Q none {s with heap:=h',toks:=tk}):wpAny (model prog w) A (pyNext (.ref it)) Q E s:=by
 obtain⟨o,ho,hc,hd⟩:=id hit
 unfold pyNext
 refine Ua (Rt (Tf (name:=Str.ofString "__next__") hit.typeIs F.slot_rev_next
  (Tg F.slot_rev_next hit.typeIs F.entry_rev_next ?_ (F.args_rev_next_1 _))))
 unfold Builtin.«reversed.__next__»
 refine Ua (TY (a:=(Value.ref it,[])) rfl ?_)
 try dsimp only
 refine Ua (UM ho hd (x:=.ref l) rfl ?_)
 refine Ua (UM ho hd (x:=rawInt (-1)) rfl ?_)
 show wpAny _ _ (if (-1:Int)<0 then _ else _) _ _ s
 rw[Uc (by decide)]
 refine Ua (Ro ?_)
 refine Ua (show wpAny _ _ (setField (.ref it) 1 (rawInt (-1)) >>= λ_=>setField (.ref it) 0 .none) _ _ _ from Ua (TK ho hd (by simp) ?_))
 have hd1:=Tk hd (·.setIfInBounds 1 (rawInt (-1)))
 have ho1:=TH _ ho (TZ hd1)
 have sb1:Heap.SameBut it s.heap (s.heap.update it (Obj.mapFields (·.setIfInBounds 1 (rawInt (-1))))):=Tw ..
 generalize s.heap.update it (Obj.mapFields (·.setIfInBounds 1 (rawInt (-1))))=h1 at ho1 sb1 ⊢
 refine TK (s:={s with heap:=h1}) ho1 hd1 (by simp) ?_
 have sb2:Heap.SameBut it h1 (h1.update it (Obj.mapFields (·.setIfInBounds 0 Value.none))):=Tw ..
 generalize h1.update it (Obj.mapFields (·.setIfInBounds 0 Value.none))=h2 at sb2 ⊢
 first
 |show wpAny _ _ (newExc (.type "StopIteration") [] >>= _) _ _ _
 | (refine Ua ?_;show wpAny _ _ (newExc (.type "StopIteration") [] >>= _) _ _ _)
 refine Ua ?_
 simp only[newExc,newTuple]
 refine Ua (U2 ?_ (by size_fits))
 refine Ua (m:=firstArgMember _ _) (TY (a:=Value.none) (by first|rfl|(simp only[firstArgMember];rfl)) ?_)
 refine U2 ?_ (by size_fits)
 simp only[raiseNew]
 refine Ua (wpAny_handled ?_)
 first|rw[show A.in1.handled=none from hh]|rw[hh]
 refine Ua (Uj (wpAny_throw ?_))
 refine Ua (TV (T:="StopIteration") (b:=true) ⟨_,Ul _ rfl,rfl⟩ isSubtype_stop ?_)
 exact Uj (hQ _ _ λb o hb e=>(((Heap.ExtBut.refl _ _).push _).push _) b o hb (sb2.extBut b o hb (sb1.extBut b o hb e)))
end
end L3
namespace L3
open PySem PySem.Spec PyProof.Rows L2
noncomputable def QkA(d:D)(g:G):Res Src:=match QH g d with
 |some (false,ds)=>.ok ⟨λg i=>if i=ds.length then some none else if i<ds.length then (match QH g d with
  |some (_,es)=>if es.length=ds.length then some es[ds.length-1-i]? else none
  |none=>none) else none,ds.length⟩ g
 |_=>.stuck
noncomputable def QfO(a:ME):MI:=λσ g=>(a σ g).bind QkA
noncomputable def Itv(b:Bool)(K:Frag)(a:Addr)(n:Nat):It :=
 ⟨λi H=>∃xs x,Sq b K H a xs/\xs.length=n/\i<n/\xs[n-1-i]?=some x,λi H x H'=>H'=H/\∀xs,Sq b K H a xs->xs[n-1-i]?=some x,λi _=>i=n⟩
theorem QhV{P:Program}{w:World}{K:Frag}{tg:Expr}(a it:Addr)(n:Nat):Turn P w K tg (Itv false K a n) [it] it (λi h=>IsRevT h it a ((n:Int) - 1 - (i:Int))) where
 mem:=by simp
 obj:=λi h st b hb=>by
  have e:b=it:=by simpa using hb
  subst e
  obtain⟨o,e,c,d⟩:=st
  exact⟨o,e,λv z=>by rw[d]at z;cases z⟩
 keep:=λi h h' st k=>st.at λo e=>k it (by simp) o e
 item:=by
  intro X hP hw hK hc i pins s σ H E I hf st hg
  subst hP hw hK
  obtain⟨xs,x,hq,hn,hi,hx⟩:=hg
  obtain⟨its,rv,p,hz⟩:=I.tuple (show SqT X.K H a xs from hq)
  obtain⟨u,hu,ru⟩:=rv.get hx
  have hl:=rv.length
  have h63:=Qbn
  obtain⟨f0,f1,f2,f3,f4,f5⟩:=hf it (by simp)
  have e:(n:Int) - 1 - (i:Int)=((n-1-i:Nat):Int):=by omega
  rw[e]at st
  refine Qby st p (x:=u) (by simpa using hu) (by simp only[Uo] <;> omega) λh' tk st' sb=>?_
  have I1:Inv X pins σ H {s with heap:=h',toks:=tk}:=I.turned (t':=tk) (λb o hb e=>(sb.2 b hb).trans e) f0 f1 f3 f4 f5
  obtain⟨o,eo,c,d⟩:=id st'
  have e2:((n-1-i:Nat):Int) - 1=(n:Int) - 1 - ((i+1:Nat):Int):=by omega
  rw[e2]at st'
  exact⟨u,rfl,Qgk (s:={s with heap:=h',toks:=tk}) eo c d (by decide) ⟨x,H,I1,ru,⟨rfl,λys hy=>by rw[I.tuple_inj hy hq];exact hx⟩,st',λb hb=>(hf b hb).1⟩⟩
 done:=by
  intro X hP hw hK hc i pins s σ H E I hf st hg
  subst hP hw hK
  have hg:i=n:=hg
  subst hg
  have e:(i:Int) - 1 - (i:Int) = -1:=by omega
  rw[e]at st
  obtain⟨f0,f1,f2,f3,f4,f5⟩:=hf it (by simp)
  exact Qb4 (I.ok.hd hc) st λh' tk eb=>⟨rfl,I.turned (t':=tk) (λb o hb e=>eb b o hb e) f0 f1 f3 f4 f5⟩
 self:=λ_ _ _ _ _ st h=>Qb3 st h
section
variable{X:Cx}{ca:Nat->Addr}{e:Expr}{me:ME}{p pos:Pos}{tg:Expr}
theorem Qm7{ta:TA}(hg:Gl X "reversed")(hm:X.mg "reversed" = none)(ha:PA X [e] ta)(hs:starEach [e] X.env=[(false,eval e X.env)]):
  PI X tg (.Call (.Name "reversed" p) [e] [] pos) (λσ H R=>ta σ H λvs H1=>∃a xs,vs=[.ref a]/\SqT X.K H1 a xs/\R (Itv false X.K a xs.length) H1):=by
 intro pins s σ H R I h
 refine Call_ (Jw I hg hm boot_reversed (UG (thn (ha pos pins s σ H _ I h) λus s1 ⟨vs,H1,I1,r1,q1⟩=>?_) hs rfl))
 obtain⟨a,xs,rfl,hq,q⟩:=q1
 cases r1 with
 |cons r rr =>
  cases rr
  cases r
  have h63:=Qbn
  have fp:∀c∈[s1.heap.objs.size],FpOk X pins H1 c:=λc hc=>by
   have e:c=s1.heap.objs.size:=by simpa using hc
   subst e
   exact I1.fpOk (Ug _) (I1.hok.fresh (Ug _))
  obtain⟨its,rv,pl,hz⟩:=I1.tuple hq
  have hl:=rv.length
  refine Qar pl (by simp only[Uo] <;> omega) λtk=>?_
  have ho:({s1 with heap:=s1.heap.push (revT a ((its.toArray.size:Int) - 1)),toks:=tk}:Shared).heap.get? s1.heap.objs.size=some (revT a ((its.toArray.size:Int) - 1)):=Ul _ rfl
  have st:IsRevT (s1.heap.push (revT a ((its.toArray.size:Int) - 1))) s1.heap.objs.size a ((xs.length:Int) - 1 - ((0:Nat):Int)):=⟨_,Ul _ rfl,rfl,by simp[revT,hl]⟩
  refine Qb3 (s:={s1 with heap:=s1.heap.push (revT a ((its.toArray.size:Int) - 1)),toks:=tk}) st ?_
  exact⟨s1.heap.objs.size,[s1.heap.objs.size],_,_,H1,rfl,I1.kept (t':=tk) λb o e=>Ub _ e,QhV a _ xs.length,st,fp,q⟩
theorem Qlq{K:Frag}{μ:List Addr}{H:Hp}{g:G}{a:Addr}{d:D}{b:Bool}{ds:List D}{n:Nat}(q:Den K μ H (.ref a) d)(h:QH g d=some (b,ds))(hn:n=ds.length):
  Sim K ca μ H ⟨λg i=>if i=ds.length then some none else if i<ds.length then (match QH g d with
  |some (_,es)=>if es.length=ds.length then some es[ds.length-1-i]? else none
  |none=>none) else none,ds.length⟩ (Itv b K a n):=by
 subst hn
 intro i H1 μ1 g1 ex r
 dsimp only
 by_cases h1:i=ds.length
 ·rw[Uc h1];exact h1
 ·rw[Uh h1]
  by_cases h2:i<ds.length
  ·rw[Uc h2]
   cases k1:QH g1 d with
   |none=>trivial
   |some p1 =>
    obtain⟨c1,es⟩:=p1
    dsimp only
    by_cases h3:es.length=ds.length
    ·rw[Uc h3]
     have f1:=J7 (K:=K) (μ:=μ) (H:=H) (μ':=μ) (H':=H) (v:=.ref a) h k1
     subst f1
     obtain⟨z1,vs,w1,s1,d1s⟩:=Z1 r (q.mono ex) k1
     cases w1
     have hx:es[ds.length-1-i]?=some (es[ds.length-1-i]'(by omega)):=by simp[show ds.length-1-i<es.length by omega]
     rw[hx]
     obtain⟨vx,hvx,qx⟩:=d1s.get hx
     have hvl:=d1s.length
     refine⟨⟨vs,vx,s1,by omega,h2,hvx⟩,λx H' yl=>?_⟩
     obtain⟨rfl,u1⟩:=yl
     have:=u1 vs s1
     rw[hvx]at this;cases this
     exact⟨.refl,r,qx⟩
    ·rw[Uh h3];trivial
  ·rw[Uh h2];trivial
theorem Qlr(hm:X.mg "reversed" = none)(he:PE3 ca X e me)(hg:Gl X "reversed":=by rfl)(hs:starEach [e] X.env=[(false,eval e X.env)]:=by rfl):PI3 ca X tg (.Call (.Name "reversed" p) [e] [] pos) (QfO me) :=
 λpn Φ=>JB (Qm7 (X:=xat X ca pn Φ) hg hm (ZR he Qp hs pn Φ) hs) λσ H R hQ=>by
  obtain⟨σ3,g,μ,Rp,q⟩:=hQ
  refine⟨σ3,g,μ,Rp,?_⟩
  unfold QfO at q
  unfold Qb mNil
  cases hm1:me σ3 g with
  |raise _ _=>rw[hm1]at q;exact q
  |stuck=>rw[hm1]at q;exact q.elim
  |ok d g1 =>
   rw[hm1,Res.bind_ok]at q
   rw[Res.bind_ok,Res.bind_ok]
   intro vs H1 μ1 ex r1 q1
   unfold QkA at q
   cases hs1:QH g1 d with
   |none=>rw[hs1]at q;exact q.elim
   |some p1 =>
    obtain⟨b,ds⟩:=p1
    rw[hs1]at q
    cases b with
    |true=>exact q.elim
    |false =>
     cases q1 with
     |@cons v _ _ _ n1 q1 =>
      cases q1
      obtain⟨a,ws,rfl,sq,dn⟩:=Z1 r1 n1 hs1
      exact⟨a,ws,rfl,sq,q _ H1 μ1 ex r1 (Qlq n1 hs1 dn.length)⟩
end
end L3
namespace L3
open PySem
noncomputable def insZ(x:Int):List Int->List Int
 |[]=>[x]
 |y::r=>if x<=y then x::y::r else y::insZ x r
noncomputable def Qai:List Int->List Int
 |[]=>[]
 |x::r=>insZ x (Qai r)
noncomputable def Qas(x:D)(g:G):Res D:=match QH g x with
 |some (true,ds)=>(match Qbv ds with
  |some ns=>if ns.length<64 then .ok (.ref g.length) (g++[.lst ((Qai ns).map .int)]) else .stuck
  |none=>.stuck)
 |_=>.stuck
theorem Qb5(x:Int):∀l:List Int,(insZ x l).Perm (x::l)
 |[]=>.refl _
 |y::r=>by
  unfold insZ
  split
  ·exact .refl _
  ·exact((Qb5 x r).cons y).trans (List.Perm.swap x y r)
theorem Yw:∀l:List Int,(Qai l).Perm l
 |[]=>.refl _
 |x::r=>(Qb5 x (Qai r)).trans ((Yw r).cons x)
theorem Qb6(x:Int):∀l:List Int,l.Pairwise (· <= ·)->(insZ x l).Pairwise (· <= ·)
 |[],_=>by simp[insZ]
 |y::r,h=>by
  unfold insZ
  have h':=US.mp h
  split
  ·rename_i hxy
   exact US.mpr ⟨λz hz=>by
    rcases Uu.mp hz with rfl|hz
    ·exact hxy
    ·exact Int.le_trans hxy (h'.1 z hz),h⟩
  ·rename_i hxy
   refine US.mpr ⟨λz hz=>?_,Qb6 x r h'.2⟩
   rcases Uu.mp ((Qb5 x r).mem_iff.mp hz) with rfl|hz
   ·omega
   ·exact h'.1 z hz
theorem JF:∀l:List Int,(Qai l).Pairwise (· <= ·)
 |[]=>.nil
 |x::r=>Qb6 x _ (JF r)
theorem Qat:∀(l m:List Int),l.Perm m->l.Pairwise (· <= ·)->m.Pairwise (· <= ·)->l=m
 |[],m,h,_,_=>(List.nil_perm.mp h).symm
 |x::l,[],h,_,_=>by have:=h.length_eq;simp at this
 |x::l,y::m,h,hl,hm=>by
  have hl':=US.mp hl
  have hm':=US.mp hm
  have e:x=y:=by
   have h1:x∈y::m:=h.mem_iff.mp (Ur ..)
   have h2:y∈x::l:=h.mem_iff.mpr (Ur ..)
   have a:y<=x:=by
    rcases Uu.mp h1 with e|h1
    ·omega
    ·exact hm'.1 x h1
   have b:x<=y:=by
    rcases Uu.mp h2 with e|h2
    ·omega
    ·exact hl'.1 y h2
   omega
  subst e
  rw[Qat l m ((List.perm_cons x).mp h) hl'.2 hm'.2]
end L3
namespace L3
open PySem PySem.Spec PyProof.Rows L2
section
variable{X:Cx}{ca:Nat->Addr}{a b e o i:Expr}{ma mb me mo mi:ME}{pos p p2 apos:Pos}{k:Nat}
theorem intsAre_of:∀{ns:List Int}{us:List Value},Vals (ns.map V.int) us->IntsAre us ns
 |[],_,h=>by cases h;exact .nil
 |n::ns,_,h=>by
  cases h with
  |cons h1 h2 =>
   obtain⟨t,rfl⟩:=h1
   exact .cons n t (intsAre_of h2)
theorem QhW:∀{us:List Value}{ns:List Int},IntsAre us ns->Vals (ns.map V.int) us
 |_,_,.nil=>.nil
 |_,_,.cons n t r=>.cons ⟨t,rfl⟩ (QhW r)
theorem QeU:CallR X (.builtin "sorted") (λxs H Q=>∃(p:Addr)(ns:List Int),xs=[.ref p]/\SqL X.K H p (ns.map V.int)/\ns.length<64/\∀l,H l=none->Q (.ref l) (upd H l (.lst ((Qai ns).map V.int)))):=by
 intro pins s σ H xs us Q I r h
 obtain⟨p,ns,rfl,hq,h64,q⟩:=h
 obtain⟨u,rfl,rx⟩:=Qk1 r
 cases rx
 obtain⟨its,r',pl,hz⟩:=I.list hq
 have hlen:=r'.length
 rw[Um]at hlen
 refine sorted_ints pl.isList (intsAre_of r') (by omega) λout ns' a1 a2 a3=>?_
 have e:ns'=Qai ns:=Qat _ _ (a2.trans (Yw ns).symm) a3 (JF ns)
 subst e
 obtain⟨c,he⟩:=sortedAll_at s.heap its out
 have hl2:((Qai ns).map V.int).length<=sizeLine:=by rw[Um,(Yw ns).length_eq];rw[Um]at hz;exact hz
 exact⟨.ref (s.heap.objs.size+1),_,I.laid (t':=s.toks) (λb o=>sortedAll_old) (BA _) (show ObjOk X.prog X.w _ _ _ (.lst ((Qai ns).map V.int)) from ⟨hl2,out.toList,c,QhW a1,he⟩),rfl,q _ (I.hok.fresh (BA _))⟩
theorem QeV{K:Frag}{μ:List Addr}{H:Hp}:∀ns:List Int,Dens K μ H (ns.map V.int) (ns.map D.int)
 |[]=>.nil
 |n::ns=>.cons (.int n) (QeV ns)
theorem Qji(hm:X.mg "sorted" = none)(he:PE3 ca X e me)(hg:Gl X "sorted":=by rfl)(hs:starEach [e] X.env=[(false,eval e X.env)]:=by rfl)(hpl:(backTo pos (starEach [] X.env)).any (·.1)=false:=by rfl):
  PE3 ca X (.Call (.Name "sorted" p) [e] [] pos) (mOp1 Qas me) :=
 QhM (r:=λxs H Q=>∃(p:Addr)(ns:List Int),xs=[V.ref p]/\SqL X.K H p (ns.map V.int)/\ns.length<64/\∀l,H l=none->Q (.ref l) (upd H l (.lst ((Qai ns).map V.int)))) (λ_ _=>QeU) hm boot_sorted (λΦ σ H μ g y d Q r q pp=>by
  have el:∀l:Addr,(μ++[l])[g.length]?=some l:=λl=>by rw[<-r.len];simp
  unfold Qas at pp
  cases hs1:QH g d with
  |none=>rw[hs1]at pp;exact pp.elim
  |some p1 =>
   obtain⟨b,ds⟩:=p1
   rw[hs1]at pp
   cases b with
   |false=>exact pp.elim
   |true =>
    dsimp only at pp
    cases hi:Qbv ds with
    |none=>rw[hi]at pp;exact pp.elim
    |some ns =>
     rw[hi]at pp
     dsimp only at pp
     by_cases h64:ns.length<64
     ·rw[Uc h64]at pp
      obtain⟨a,ws,rfl,sq,dn⟩:=Z1 r q hs1
      have ew:=Qb1 dn hi
      subst ew
      exact⟨a,ns,rfl,sq,h64,λl hl=>pp _ _ (μ++[l]) (QS hl) (r.push hl ⟨_,Qq,QeV _⟩) (.ref (el l))⟩
     ·rw[Uh h64]at pp;exact pp.elim) he hg (by decide) (by decide) hs hpl
end
end L3
namespace L3
open PySem
noncomputable def Qdf(d:D)(g:G):Res Src:=match QH g d with
 |some (true,ds)=>.ok ⟨λg i=>(match QH g d with
  |some (_,es)=>(match es[i]? with
   |some x=>some (some (.tup [.int i,x]))
   |none=>some none)
  |none=>none),ds.length⟩ g
 |_=>.stuck
noncomputable def Qa6(a:ME):MI:=λσ g=>(a σ g).bind Qdf
end L3
namespace L3
open PySem PySem.Spec PyProof.Rows L2
noncomputable def Ite(K:Frag)(a:Addr):It :=
  ⟨λi H=>∃xs x,SqL K H a xs/\xs[i]?=some x,
   λi H v H'=>∃p x,H p=none/\v=.ref p/\H'=upd H p (.tup [.int (i:Int),x])/\∀xs,SqL K H a xs->xs[i]?=some x,
   λi H=>∃xs,SqL K H a xs/\xs.length<=i⟩
def EnTn(e it l:Addr)(i:Nat)(h:Heap):Prop:=(∃old,IsEnum h e it (i:Int) old)/\h.IsListIter it l i
theorem QhX{P:Program}{w:World}{K:Frag}{elts:List Expr}{kk:Nat}{tp:Pos}(e it l:Addr)(hei:e≠it):
  Turn P w K (.Tuple elts kk tp) (Ite K l) [e,it] e (EnTn e it l) where
 mem:=by simp
 obj:=λi h st b hb=>by
  obtain⟨⟨old,hE⟩,hI⟩:=st
  have hb':b=e\/b=it:=by simpa using hb
  rcases hb' with rfl|rfl
  ·exact⟨_,hE,λv q=>by cases q⟩
  ·obtain⟨o,eo,c,d⟩:=hI
   exact⟨o,eo,λv z=>by rw[d]at z;cases z⟩
 keep:=λi h h' st k=>by
  obtain⟨⟨old,hE⟩,hI⟩:=st
  exact⟨⟨old,k e (by simp) _ hE⟩,hI.at λo x=>k it (by simp) o x⟩
 item:=by
  intro X hP hw hK hc i pins s σ H E I hf st hg
  subst hP hw hK
  obtain⟨xs,x,q1,hx⟩:=hg
  obtain⟨its,r1,p1,hz1⟩:=I.list q1
  obtain⟨u,hu,ru⟩:=r1.get hx
  obtain⟨⟨old,hE⟩,hI⟩:=st
  have fe:=hf e (by simp)
  have fi:=hf it (by simp)
  refine wpAny_pyNext_enum_item hE hI p1.isList (x:=u) (by simpa using hu) hei λh' ho hit' hT hsz hk=>?_
  have hp:H s.heap.objs.size=none:=I.hok.fresh (Ug _)
  have inC:∀b,b∈[e,it]->FpOk X pins H b:=λb hb=>hf b hb
  have hk':∀b o,b∉[e,it]->s.heap.get? b=some o->h'.get? b=some o:=λb o hb ee=>hk b o (λq=>hb (by simp[q])) (λq=>hb (by simp[q])) ee
  have nC:∀b v,H b=some v->b∉[e,it]:=λb v ee hb=>by rw[(inC b hb).1]at ee;cases ee
  have nP:∀b v,H b=some v->b≠s.heap.objs.size:=λb v ee=>QM ee hp
  have I1:Inv X pins σ (upd H s.heap.objs.size (.tup [.int (i:Int),x])) {s with heap:=h',toks:=s.toks+1}:=by
   refine I.step (g':=s.gens) (t':=s.toks+1) (d':=s.drawn) (ch:=[e,it]) (λb hb=>⟨(inC b hb).2.2.2.1,(inC b hb).2.1,(inC b hb).2.2.2.2.1,(inC b hb).2.2.2.2.2⟩) (λb o _ _ hb ee _=>hk' b o hb ee) (λb o _ _ hb ee _=>⟨o.slots,hk' b o hb ee⟩)
    (λb o hb ee n=>by rw[Qs (UE (Uk ee))];exact n) (λb o hb ee=>⟨o,hk' b o hb ee⟩) (λb v ee=>by rw[Qs (nP b _ ee)];exact ee) (λb o v ee=>by rw[Qs (nP b _ ee)];exact ee) (λb ps ee=>⟨#[],by rw[Qs (nP b _ ee),ee];simp⟩)
    (λm hm=>?_) (λb v ee=>?_) I.bare
   ·obtain⟨o,es,ep,hoo,rr⟩:=hm
    exact⟨o,es,ep,hk' _ o (λhb=>(inC _ hb).2.1 rfl) hoo,rr⟩
   ·by_cases hb:b=s.heap.objs.size
    ·subst hb
     rw[Qq]at ee;cases ee
     exact⟨by rw[Re];show 2<=16777216;decide,[.int (i:Int) s.toks,u],.cons ⟨_,rfl⟩ (.cons ru .nil),⟨_,hT,rfl,_,rfl⟩⟩
    ·rw[Qs hb]at ee
     refine(I.hok b v ee).stay (λc' v' hc' q=>?_) (λc' q=>by rw[Qs (nP c' _ q)];exact q) λc' xs' q=>by rw[Qs (nP c' _ q)];exact q
     rcases hc' with rfl|hc'
     ·exact hk' _ _ (nC _ _ ee) q
     ·exact hk' _ _ (nC _ _ hc') q
  refine⟨_,rfl,wpAny_letOwnedTupleGo_enum (s:={s with heap:=h',toks:=s.toks+1}) ho λh'' hE'' hs''=>?_⟩
  have hpe:s.heap.objs.size≠e:=Rj (Uk hE)
  have I2:Inv X pins σ (upd H s.heap.objs.size (.tup [.int (i:Int),x])) {s with heap:=h'',toks:=s.toks+1}:=Inv.turned (s:={s with heap:=h',toks:=s.toks+1}) (t':=s.toks+1) I1 (λb o hb ee=>hs''.extBut b o hb ee) (by rw[Qs (Ne.symm hpe)];exact fe.1) fe.2.1 fe.2.2.2.1 fe.2.2.2.2.1 fe.2.2.2.2.2
  have e2:(i:Int)+1=((i+1:Nat):Int):=by omega
  rw[e2]at hE''
  refine⟨.ref s.heap.objs.size,_,I2,rfl,⟨_,x,hp,rfl,rfl,λxs' q=>by rw[I.list_inj q q1];exact hx⟩,⟨⟨_,hE''⟩,hit'.at λo ee=>hs''.extBut _ o (Ne.symm hei) ee⟩,λb hb=>?_⟩
  have lt:b<s.heap.objs.size:=by
   have hb':b=e\/b=it:=by simpa using hb
   rcases hb' with rfl|rfl
   ·exact Uk hE
   ·obtain⟨o,eo,_⟩:=hI
    exact Uk eo
  rw[Qs (UE lt)]
  exact(hf b hb).1
 done:=by
  intro X hP hw hK hc i pins s σ H E I hf st hg
  subst hP hw hK
  obtain⟨xs,q1,hl⟩:=hg
  obtain⟨its,r1,p1,hz1⟩:=I.list q1
  have hlen:=r1.length
  obtain⟨⟨old,hE⟩,hI⟩:=st
  obtain⟨f0,f1,f2,f3,f4,f5⟩:=hf it (by simp)
  exact wpAny_pyNext_enum_end (I.ok.hd hc) hE hI p1.isList (Wl (by simp;omega)) λh' eb=>⟨rfl,I.turned (t':=s.toks) (λb o hb ee=>eb b o hb ee) f0 f1 f3 f4 f5⟩
 self:=λ_ _ _ _ _ st h=>by
  obtain⟨⟨old,hE⟩,_⟩:=st
  exact wpAny_pyIter_enum hE h
section
variable{X:Cx}{ca:Nat->Addr}{e1:Expr}{m1:ME}{p pos tp:Pos}{elts:List Expr}{kk:Nat}
theorem Qls{ta:TA}(hg:Gl X "enumerate")(hm:X.mg "enumerate" = none)(ha:PA X [e1] ta)(hs:starEach [e1] X.env=[(false,eval e1 X.env)]):
  PI X (.Tuple elts kk tp) (.Call (.Name "enumerate" p) [e1] [] pos) (λσ H R=>ta σ H λvs H1=>∃a xs,vs=[.ref a]/\SqL X.K H1 a xs/\R (Ite X.K a) H1):=by
 intro pins s σ H R I h
 refine Call_ (Jw I hg hm boot_enumerate (UG (thn (ha pos pins s σ H _ I h) λus s1 ⟨vs,H1,I1,r1,q1⟩=>?_) hs rfl))
 obtain⟨a,xs,rfl,hq,q⟩:=q1
 cases r1 with
 |cons ru rr =>
  cases rr
  cases ru
  obtain⟨its,v1,p1,hz⟩:=I1.list hq
  refine call_enumerate_list p1.isList λh' hE hI hsz hk=>wpAny_pyIter_enum hE ?_
  have I2:Inv X pins σ H1 {s1 with heap:=h'}:=I1.kept (t':=s1.toks) hk
  refine⟨s1.heap.objs.size+1,_,_,_,H1,rfl,I2,QhX _ s1.heap.objs.size a (Nat.succ_ne_self _),⟨⟨_,hE⟩,hI⟩,λb hb=>?_,q⟩
  have hb':b=s1.heap.objs.size+1\/b=s1.heap.objs.size:=by simpa using hb
  have hle:s1.heap.objs.size<=b:=by rcases hb' with h|h <;> rw[h] <;> first|exact Ug _|exact Nat.le_add_right _ _
  exact I1.fpOk hle (I1.hok.fresh hle)
theorem Qjj{K:Frag}{μ:List Addr}{H:Hp}{g:G}{v1:V}{d1:D}{xs:List D}{t:Nat}(q1:Den K μ H v1 d1)(h1:QH g d1=some (true,xs)){a1:Addr}(e1:v1=.ref a1):
  Sim K ca μ H ⟨λg i=>(match QH g d1 with
  |some (_,es)=>(match es[i]? with
   |some x=>some (some (.tup [.int i,x]))
   |none=>some none)
  |none=>none),t⟩ (Ite K a1):=by
 intro i H1 μ1 g1 ex r
 dsimp only
 cases k1:QH g1 d1 with
 |none=>trivial
 |some p1 =>
  obtain⟨c1,xs1⟩:=p1
  have f1:=J7 (K:=K) (μ:=μ) (H:=H) (μ':=μ) (H':=H) (v:=v1) h1 k1
  subst f1
  obtain⟨z1,vs,w1,s1,d1s⟩:=Z1 r (q1.mono ex) k1
  rw[e1]at w1;cases w1
  dsimp only
  cases hx:xs1[i]? with
  |none =>
   refine⟨vs,s1,?_⟩
   rw[d1s.length];exact UP.mp hx
  |some x =>
   obtain⟨vx,hvx,qx⟩:=d1s.get hx
   refine⟨⟨vs,vx,s1,hvx⟩,λv H' yl=>?_⟩
   obtain⟨pp,x',hp,rfl,rfl,u1⟩:=yl
   have:=u1 vs s1
   rw[hvx]at this;cases this
   exact⟨Q8 hp,r.new hp,.tup (.of Qq) (.cons (.int _) (.cons (qx.mono (Q8 hp)) .nil))⟩
theorem Qjk(hm:X.mg "enumerate" = none)(h1:PE3 ca X e1 m1)(hg:Gl X "enumerate":=by rfl)(hs:starEach [e1] X.env=[(false,eval e1 X.env)]:=by rfl):PI3 ca X (.Tuple elts kk tp) (.Call (.Name "enumerate" p) [e1] [] pos) (Qa6 m1) :=
 λpn Φ=>JB (Qls (X:=xat X ca pn Φ) hg hm (ZR h1 Qp hs pn Φ) hs) λσ H R hQ=>by
  obtain⟨σ3,g,μ,Rp,q⟩:=hQ
  refine⟨σ3,g,μ,Rp,?_⟩
  unfold Qa6 at q
  unfold Qb mNil
  cases hm1:m1 σ3 g with
  |raise _ _=>rw[hm1]at q;exact q
  |stuck=>rw[hm1]at q;exact q.elim
  |ok d1 g1 =>
   rw[hm1,Res.bind_ok]at q
   rw[Res.bind_ok,Res.bind_ok]
   intro vs H1 μ1 ex r1 q1
   unfold Qdf at q
   cases hs1:QH g1 d1 with
   |none=>rw[hs1]at q;exact q.elim
   |some p1 =>
    obtain⟨b,ds⟩:=p1
    rw[hs1]at q
    cases b with
    |false=>exact q.elim
    |true =>
     cases q1 with
     |@cons v _ _ _ n1 q1 =>
      cases q1
      obtain⟨a,ws,rfl,sq,dn⟩:=Z1 r1 n1 hs1
      exact⟨a,ws,rfl,sq,q _ H1 μ1 ex r1 (Qjj n1 hs1 rfl)⟩
end
end L3
namespace PySem
open Sem (wp)
namespace F
theorem nolen_lri:typeLookup (.type "list_reverseiterator") "__len__" = pure none:=by rw[TM,Ta];kernel_rfl
theorem hint_lri:typeLookup (.type "list_reverseiterator") "__length_hint__" = pure (some (.builtin "list_reverseiterator.__length_hint__")):=by rw[TM,Ta];kernel_rfl
end F
section
variable{prog:Program}{w:World}{A:Around}{E:Value->Shared->Prop}{s:Shared}{I:Addr}{fp wr:List Addr}{G:Array GenState->Array GenState->Prop}{n:Nat}{P:Nat->Value->Prop}{St:Nat->Shared->Prop}
theorem Qa7{Q:List Value->Shared->Prop}(W:WalksS prog w A.in1 I fp wr G n P St)(hT:∀i s,St i s->s.TypeIs (.ref I) "list_reverseiterator")(hst:St 0 s)(hfp:∀b∈fp,b<s.heap.objs.size)(hI:I∈fp)(hQ:∀s' acc,Moved wr G s s'->ItemsOf P acc n->Q acc.toList s')(hn:n<=sizeLine):wpAny (model prog w) A (collect (.ref I)) Q E s:=by
 have hSf:s.heap.objs.size∉fp:=λhm=>Ti _ (hfp _ hm)
 have hSI:s.heap.objs.size≠I:=λe=>hSf (e ▸ hI)
 unfold collect
 refine Ua (wpAny_runValue (Wt F.entry_proto_collect ?_))
 rw[Ru F.plain_proto_collect _]
 show wpAny _ A.in1 (newList [] >>= λl=>again (.builtin "list.__iadd__" ⟨[l,.ref I],[]⟩)) _ _ s
 refine Ua (U2 ?_)
 refine Uj ⟨plainId_quiet F.plain_list_iadd _,Wt F.entry_list_iadd ?_⟩
 rw[Ru F.plain_list_iadd _]
 have hst₁:=W.frame 0 s (s.heap.push {cls:=.type "list",data:=.seq ([]:List Value).toArray}) s.toks hst (Ug _) λb _ o e=>Ub _ e
 have hS₁:(s.heap.push {cls:=.type "list",data:=.seq ([]:List Value).toArray}).get? s.heap.objs.size=some {cls:=.type "list",data:=.seq ([]:List Value).toArray}:=Ul _ rfl
 have h1:Builtin.List.listSameRef (.ref s.heap.objs.size) (.ref I)=false:=by simp[Builtin.List.listSameRef,hSI]
 show wpAny _ A.in1 (Builtin.List.listExtendWith (.ref s.heap.objs.size) (.ref I) (.ref s.heap.objs.size)) _ _ _
 unfold Builtin.List.listExtendWith
 refine Ua (wpAny_typeOf (hT 0 _ hst₁) ?_)
 rw[Uh (by rw[h1];decide)]
 refine Ua (W.self 0 _ _ _ hst₁ ?_)
 refine Ua (Rn ?_)
 unfold Builtin.List.listLengthHint
 refine Ua (Tt (hT 0 _ hst₁) F.nolen_lri ?_)
 show wpAny _ A.in1 (specialOf (Value.ref I) (Str.ofString "__length_hint__") >>= _) _ _ _
 refine Ua (Tt (hT 0 _ hst₁) F.hint_lri ?_)
 (generalize hid:("list_reverseiterator.__length_hint__" : String)=id0;(fail_if_success (clear hid id0));wp_delta;rw[show splitId id0=some ("list_reverseiterator", "__length_hint__") from by subst hid;decide +kernel];subst hid)
 refine Ua (TV (b:=true) (hT 0 _ hst₁) (by rw[Ri];kernel_rfl) ?_)
 refine Uj ?_
 rw[Uh (by decide)]
 refine Uj ⟨plainId_quiet F.plain_extend_loop _,codeAny_extend_loopS W hn _ hSf _ n 0 _ _ _ rfl (TX _) hst₁ hS₁ (ItemsOf.nil P) λs' acc' c' hm hS' hacc=>?_⟩
 show wpAny _ A (load s.heap.objs.size >>= _) _ _ s'
 refine Ua (wpAny_load hS' ?_)
 exact Uj (hQ s' acc' (Moved.drop_new (o:={cls:=.type "list",data:=.seq ([]:List Value).toArray}) (tk:=s.toks) hm (Ug _)) hacc)
theorem QaM{Q₁:Value->Shared->Prop}(W:WalksS prog w A.in1.in1 I fp wr G n P St)(hT:∀i s,St i s->s.TypeIs (.ref I) "list_reverseiterator")(hst:St 0 s)(hfp:∀b∈fp,b<s.heap.objs.size)(hI:I∈fp)(h:∀s' acc,Moved wr G s s'->ItemsOf P acc n->Q₁ (.ref s'.heap.objs.size) {s' with heap:=s'.heap.push {cls:=.type "tuple",data:=.seq acc} })(hsz:n<=sizeLine):
  codeAny (model prog w) A (.call (.builtin "tuple.__new__") ⟨[.type "tuple",.ref I],[]⟩) (wants Q₁ E) s:=by
 refine codeAny_of_tree ?_
 show wpAny _ A.in1 (do checkBuiltinCall "tuple.__new__" ⟨[.type "tuple",.ref I],[]⟩;again (.builtin "tuple.__new__" ⟨[.type "tuple",.ref I],[]⟩)) _ _ s
 refine Ua (TY (F.newCall_tuple_1 _) (Uj ⟨plainId_quiet F.plain_tuple_new _,Wt F.entry_tuple_new ?_⟩))
 rw[Ru F.plain_tuple_new _]
 have hsub:=sub_tuple_self
 have hinit:=init_tuple_lookup
 have hmh:=madeHere_tuple
 have hTI:=hT 0 s hst
 wp_walk using wpAny_typeOf hTI,Qa7 (hn:=hsz) W hT hst hfp hI
 intro s' acc hm hacc
 show wpAny _ _ (Builtin.Tuple.tupleExact acc.toList.toArray >>= λv=>ret v) _ _ _
 unfold Builtin.Tuple.tupleExact
 refine Ua (U2 ?_ (by show acc.toList.toArray.size<=sizeLine;simp only[Array.toArray_toList];rw[hacc.1];exact hsz))
 refine Uj ?_
 have e:acc.toList.toArray=acc:=by simp
 rw[e]
 exact h s' acc hm hacc
theorem QcF{Q:Value->Shared->Prop}(W:WalksS prog w A.in1.in1.in1 I fp wr G n P St)(hT:∀i s,St i s->s.TypeIs (.ref I) "list_reverseiterator")(hst:St 0 s)(hfp:∀b∈fp,b<s.heap.objs.size)(hI:I∈fp)(hQ:∀s' acc,Moved wr G s s'->ItemsOf P acc n->Q (.ref s'.heap.objs.size) {s' with heap:=s'.heap.push {cls:=.type "tuple",data:=.seq acc} })(hsz:n<=sizeLine):
  wpAny (model prog w) A (call (.type "tuple") [.ref I]) Q E s:=by
 refine callType_codes (Q₁:=λobj s₁=>s₁.TypeIs obj "tuple" /\ Q obj s₁) F.called_tuple (F.typeCall_tuple_1 _) F.entry_object_init
  (QaM (hsz:=hsz) W hT hst hfp hI λs' acc hm hacc=>⟨⟨_,Ul _ rfl,rfl⟩,hQ s' acc hm hacc⟩) λobj s₁ h₁=>?_
 exact⟨h₁.1,F.args_object_init_2 obj _,object_init_meets F.called_tuple.init.lookup F.called_tuple.made (by decide) prog w A.in1 _ s₁ ⟨h₁.1,rfl,h₁.2⟩⟩
theorem QcG{l:Addr}{its:List Value}{Q:Value->Shared->Prop}(hh:A.handled=none)(hne:l≠I)(hit:s.heap.IsRevIter I l ((its.toArray.size:Int) - 1))(hl:s.heap.IsList l its.toArray)(hsz:its.toArray.size<=sizeLine)(hQ:∀(h':Heap) (tk:Nat),(∀b o,b≠I->s.heap.get? b=some o->h'.get? b=some o)->Q (.ref h'.objs.size) {s with heap:=h'.push {cls:=.type "tuple",data:=.seq its.reverse.toArray},toks:=tk}):
  wpAny (model prog w) A (call (.type "tuple") [.ref I]) Q E s:=by
 refine QcF (Walks.listRev (A:=A.in1.in1.in1) hh I l hne its.toArray).toS (λ_ _ st=>st.2.1.typeIs) ⟨TX _,by simpa using hit,hl⟩ (λb hb=>?_) (by simp) (λs' acc hm ha=>?_) hsz
 ·obtain⟨o,ho,_⟩:=hit
  obtain⟨o',ho',_⟩:=hl
  rcases Uu.mp hb with rfl|hb
  ·exact Uk ho
  ·rw[Uf.mp hb];exact Uk ho'
 ·have e:acc=its.reverse.toArray:=by
   apply Array.ext_getElem?
   intro i
   by_cases hi:i<its.length
   ·have h1:acc[i]?=some (acc[i]'(by rw[ha.1];simpa using hi)):=Array.getElem?_eq_getElem _
    have h2:=ha.2 i _ h1
    rw[h1,<-h2]
    simp only[Uo,Rl,List.getElem?_reverse hi]
   ·have hs:acc.size=its.length:=by rw[ha.1];simp
    rw[Wl (by omega),Rl,TJ (by simp;omega)]
  subst e
  have e2:s' = {s with heap:=s'.heap,toks:=s'.toks}:=by
   have a1:=hm.gens
   have a2:=hm.drawn
   have a3:=hm.os
   cases s'
   cases s
   simp only at a1 a2 a3 ⊢
   subst a1 a2 a3
   rfl
  have:=hQ s'.heap s'.toks λb o hb e=>hm.heap b o (by simpa using hb) e
  rw[e2]
  exact this
end
end PySem
namespace L3
open PySem
noncomputable def Jf(x:D)(g:G):Res D:=match QH g x with
 |some (true,ds)=>.ok (.tup ds.reverse) g
 |_=>.stuck
end L3
namespace L3
open PySem PySem.Spec PyProof.Rows L2
theorem QfP:∀{xs:List V}{us:List Value},Vals xs us->Vals xs.reverse us.reverse
 |_,_,.nil=>.nil
 |_,_,.cons h t=>by rw[TQ,TQ];exact(QfP t).append (.cons h .nil)
theorem Dens.rev{K:Frag}{μ:List Addr}{H:Hp}:∀{vs:List V}{ds:List D},Dens K μ H vs ds->Dens K μ H vs.reverse ds.reverse
 |_,_,.nil=>.nil
 |_,_,.cons h t=>by rw[TQ,TQ];exact(Dens.rev t).append (.cons h .nil)
section
variable{X:Cx}{ca:Nat->Addr}{e:Expr}{me:ME}{p p2 pos pos2:Pos}
theorem QhY{ta:TA}(hs0:starEach [.Call (.Name "reversed" p2) [e] [] pos2] X.env=[(false,eval (.Call (.Name "reversed" p2) [e] [] pos2) X.env)])(hg:Gl X "tuple")(hm:X.mg "tuple" = none)(hg2:Gl X "reversed")(hm2:X.mg "reversed" = none)(ha:PA X [e] ta)(hs:starEach [e] X.env=[(false,eval e X.env)])(hc:X.calm=true):
  PE X (.Call (.Name "tuple" p) [.Call (.Name "reversed" p2) [e] [] pos2] [] pos) (λσ H Q=>ta σ H λvs H1=>∃a xs,vs=[.ref a]/\SqL X.K H1 a xs/\∀l,H1 l=none->Q (.ref l) (upd H1 l (.tup xs.reverse))):=by
 intro pins s σ H Q I h
 refine Call_ (Jw I hg hm boot_tuple (UG ?_ hs0 rfl))
 rw[hs0]
 show wpAny _ _ (spliced ((false,eval (.Call (.Name "reversed" p2) [e] [] pos2) X.env)::[])) _ _ s
 refine Calls.spliced_cons (Call_ (Jw I hg2 hm2 boot_reversed (UG (thn (ha pos2 pins s σ H _ I h) λus s1 hv=>?_) hs rfl)))
 obtain⟨vs,H1,I1,r1,a,xs,rfl,hq,q⟩:=hv
 cases r1 with
 |cons r rr =>
  cases rr
  cases r
  have h63:=Qbn
  obtain⟨its,rv,pl,hz⟩:=I1.list hq
  have hl:=rv.length
  obtain⟨f0,f1,f2,f3,f4,f5⟩:=I1.fpOk (Ug _) (I1.hok.fresh (Ug _))
  refine call_reversed_list pl.isList (Calls.spliced_nil ?_)
  have I2:Inv X pins σ H1 {s1 with heap:=s1.heap.push (revObj a ((its.toArray.size:Int) - 1))}:=I1.kept (t':=s1.toks) λb o e=>Ub _ e
  have ll:a≠s1.heap.objs.size:=λz=>by
   obtain⟨o,ho,_⟩:=pl.isList
   exact absurd (Uk ho) (by rw[z];exact Ti _)
  refine QcG (I:=s1.heap.objs.size) (l:=a) (its:=its) (s:={s1 with heap:=s1.heap.push (revObj a ((its.toArray.size:Int) - 1))}) (I1.ok.hd hc) ll ⟨_,Ul _ rfl,rfl,rfl⟩ (pl.isList.at λo e=>Ub _ e) (by simp only[Uo];omega) λh' tk kp=>?_
  have I3:Inv X pins σ H1 {s1 with heap:=h',toks:=tk}:=I2.turned (t':=tk) (λb o hb e=>kp b o hb e) f0 f1 f3 f4 f5
  refine⟨.ref h'.objs.size,_,I3.laid (t':=tk) (λb o e=>Ub _ e) (Ug _) (show ObjOk X.prog X.w _ _ _ (.tup xs.reverse) from ⟨by rw[RE];exact hz,its.reverse,QfP rv,IsTup.new _ _⟩),rfl,q _ (I3.hok.fresh (Ug _))⟩
theorem Qgz(hc:X.calm=true)(hm:X.mg "tuple" = none)(hm2:X.mg "reversed" = none)(he:PE3 ca X e me)(hs0:starEach [.Call (.Name "reversed" p2) [e] [] pos2] X.env=[(false,eval (.Call (.Name "reversed" p2) [e] [] pos2) X.env)]:=by rfl)(hg:Gl X "tuple":=by rfl)(hg2:Gl X "reversed":=by rfl)(hs:starEach [e] X.env=[(false,eval e X.env)]:=by rfl):
  PE3 ca X (.Call (.Name "tuple" p) [.Call (.Name "reversed" p2) [e] [] pos2] [] pos) (mOp1 Jf me) :=
 λpn Φ=>Zf (QhY (X:=xat X ca pn Φ) hs0 hg hm hg2 hm2 (ZR he Qp hs pn Φ) hs hc) λσ H Q hQ=>by
  obtain⟨σ3,g,μ,R,q⟩:=hQ
  refine⟨σ3,g,μ,R,?_⟩
  unfold mOp1 at q
  unfold Qb mNil
  cases hm:me σ3 g with
  |raise _ _=>rw[hm]at q;exact q
  |stuck=>rw[hm]at q;exact q.elim
  |ok d g1 =>
   rw[hm,Res.bind_ok]at q
   rw[Res.bind_ok,Res.bind_ok]
   intro vs H1 μ1 e1 r1 q1
   cases q1 with
   |@cons v _ _ _ h1 h2 =>
    cases h2
    unfold Jf at q
    cases hs1:QH g1 d with
    |none=>rw[hs1]at q;exact q.elim
    |some p1 =>
     obtain⟨b,ds⟩:=p1
     rw[hs1]at q
     cases b with
     |false=>exact q.elim
     |true =>
      obtain⟨a,ws,rfl,sq,dn⟩:=Z1 r1 h1 hs1
      exact⟨a,ws,rfl,sq,λl hl=>q _ _ μ1 (e1.trans (Q8 hl)) (r1.new hl) (.tup (.of Qq) (dn.rev.mono (Q8 hl)))⟩
end
noncomputable def datB(K:Frag):Nat->Value->D->Bool
 |0,_,_=>false
 |f+1,u,d=>match u,d with
  |.none,.non=>true
  |.int i _,.int j=>i == j
  |.ref a,.tup ds=>(match K.lookup a with
   |some ⟨.type t,_,.seq its _,_⟩=>t == "tuple" && decide (its.size<=63) && decide (its.toList.length=ds.length) && (its.toList.zip ds).all λp=>datB K f p.1 p.2
   |_=>false)
  |_,_=>false
theorem QhZ{K:Frag}:∀{us:List Value}{ds:List D},us.length=ds.length->(∀p∈us.zip ds,∃v,RelV v p.1/\∀μ H,Den K μ H v p.2)->∃vs,Vals vs us/\∀μ H,Dens K μ H vs ds
 |[],[],_,_=>⟨[],.nil,λ_ _=>.nil⟩
 |[],_::_,h,_=>nomatch h
 |_::_,[],h,_=>nomatch h
 |u::us,d::ds,h,k=>by
  obtain⟨v,r,q⟩:=k (u,d) (by simp)
  obtain⟨vs,rs,qs⟩:=QhZ (us:=us) (ds:=ds) (by simpa using h) λp hp=>k p (by simp[hp])
  exact⟨v::vs,.cons r rs,λμ H=>.cons (q μ H) (qs μ H)⟩
theorem QkB{K:Frag}:∀(f:Nat)(u:Value)(d:D),datB K f u d=true->∃v,RelV v u/\∀μ H,Den K μ H v d
 |0,_,_,h=>nomatch h
 |f+1,u,d,h=>by
  unfold datB at h
  split at h
  ·exact⟨.non,rfl,λ_ _=>.non⟩
  ·rename_i i t j
   have e:i=j:=Td.mp h
   subst e
   exact⟨.int i,⟨t,rfl⟩,λ_ _=>.int i⟩
  ·rename_i a ds
   split at h
   ·rename_i t dd its n sl hk
    simp only[UD,Td,UO,Th]at h
    obtain⟨⟨⟨h1,h2⟩,h3⟩,h4⟩:=h
    subst h1
    obtain⟨vs,rs,qs⟩:=QhZ h3 λp hp=>QkB f p.1 p.2 (h4 p hp)
    exact⟨.ref a,rfl,λμ H=>.tup (.inr ⟨_,its,n,hk,rfl,rfl,Ux h2 (by rw[Re];decide),rs⟩) (qs μ H)⟩
   ·cases h
  ·cases h
theorem Qh0{X:Cx}{ca:Nat->Addr}{pos:Pos}{x:Str}{d:D}(h:∃u v,X.mg x=some u/\RelV v u/\∀μ H,Den X.K μ H v d)(hg:Gl X x:=by rfl)(hd:(x == ("__debug__" : Str))=false:=by decide):PE3 ca X (.Name x pos) (mLit d):=by
 obtain⟨u,v,hm,r,q⟩:=h
 exact λpn Φ=>Zf (Qg5 (X:=xat X ca pn Φ) hg hm r hd) λ_ H _ z=>by
  obtain⟨_,_,μ,R,p⟩:=z
  exact p v H μ .refl R.g (q _ _)
end L3
namespace L2
open PySem PySem.Spec PyProof.Rows
section
variable{κ:Type}[DecidableEq κ]
noncomputable def valV(kvs:List (κ×V))(k:κ):Option V:=(kvs.find? λkv=>decide (kv.1=k)).map (·.2)
noncomputable def putK(kvs:List (κ×V))(k:κ)(v:V):List (κ×V) :=
 if (kvs.any λkv=>decide (kv.1=k))=true then kvs.map (λkv=>if kv.1=k then (kv.1,v) else kv) else kvs++[(k,v)]
noncomputable def Qea(kvs:List (κ×V))(k:κ):List (κ×V):=kvs.filter λkv=>decide (kv.1≠k)
theorem QfQ{p:κ×V}{r:List (κ×V)}{k:κ}(e:p.1=k):valV (p::r) k=some p.2:=by simp[valV,UA,e]
theorem QfR{p:κ×V}{r:List (κ×V)}{k:κ}(e:¬p.1=k):valV (p::r) k=valV r k:=by simp[valV,UA,e]
theorem QeW(kvs:List (κ×V))(k:κ)(v:V):(putK kvs k v).length<=kvs.length+1:=by
 unfold putK
 split
 ·rw[Um];omega
 ·rw[UB,UN,List.length_nil];omega
theorem RelO.getD{o:Option V}{u:Option Value}{d:V}{d':Value}(r:RelO o u)(rd:RelV d d'):RelV (o.getD d) (u.getD d'):=by
 cases o with
 |none=>cases u with
  |none=>exact rd
  |some _=>exact(show False from r).elim
 |some _=>cases u with
  |none=>exact(show False from r).elim
  |some _=>exact r
theorem KV.val{kvs:List (κ×V)}{vs:List (κ×Value)}(r:KV kvs vs)(k:κ):RelO (valV kvs k) (valueAt vs k):=by
 unfold KV at r
 induction r with
 |nil=>exact True.intro
 |@cons p q ps qs h t ih =>
  obtain⟨h1,h2⟩:=h
  by_cases e:p.1=k
  ·have e':q.1=k:=h1.symm.trans e
   have b:valueAt (q::qs) k=some q.2:=by simp[valueAt,UA,e']
   rw[QfQ e,b];exact h2
  ·have e':¬q.1=k:=λz=>e (h1.trans z)
   have b:valueAt (q::qs) k=valueAt qs k:=by simp[valueAt,UA,e']
   rw[QfR e,b];exact ih
theorem KV.any{kvs:List (κ×V)}{vs:List (κ×Value)}(r:KV kvs vs)(k:κ):(kvs.any λkv=>decide (kv.1=k))=vs.any λkv=>decide (kv.1=k):=by
 unfold KV at r
 induction r with
 |nil=>rfl
 |cons h t ih=>rw[Tz,Tz,ih,h.1]
theorem KV.repl{kvs:List (κ×V)}{vs:List (κ×Value)}(r:KV kvs vs)(k:κ){y:V}{u:Value}(ry:RelV y u):
  KV (kvs.map λkv=>if kv.1=k then (kv.1,y) else kv) (vs.map λkv=>if kv.1=k then (kv.1,u) else kv):=by
 unfold KV at r ⊢
 induction r with
 |nil=>exact .nil
 |@cons p q ps qs h t ih =>
  rw[UH,UH]
  refine .cons ?_ ih
  obtain⟨h1,h2⟩:=h
  by_cases e:p.1=k
  ·rw[Uc e,Uc (h1.symm.trans e)];exact⟨h1,ry⟩
  ·rw[Uh e,Uh (λz=>e (h1.trans z))];exact⟨h1,h2⟩
theorem KV.put{kvs:List (κ×V)}{vs:List (κ×Value)}(r:KV kvs vs)(k:κ){y:V}{u:Value}(ry:RelV y u):KV (putK kvs k y) (stored vs k u):=by
 unfold putK stored
 rw[r.any k]
 by_cases e:(vs.any λkv=>decide (kv.1=k))=true
 ·rw[Uc e,Uc e];exact r.repl k ry
 ·rw[Uh e,Uh e];exact Paired.snoc r ⟨rfl,ry⟩
theorem KV.drop{kvs:List (κ×V)}{vs:List (κ×Value)}(r:KV kvs vs)(k:κ):KV (Qea kvs k) (without vs k):=by
 unfold KV at r ⊢
 unfold Qea without
 induction r with
 |nil=>exact .nil
 |@cons p q ps qs h t ih =>
  obtain⟨h1,h2⟩:=h
  rw[U8,U8]
  by_cases e:p.1=k
  ·have a:¬decide (p.1≠k)=true:=by simp[e]
   have b:¬decide (q.1≠k)=true:=by simp[h1.symm.trans e]
   rw[Uh a,Uh b];exact ih
  ·have e':¬q.1=k:=λz=>e (h1.trans z)
   have a:decide (p.1≠k)=true:=by simp[e]
   have b:decide (q.1≠k)=true:=by simp[e']
   rw[Uc a,Uc b];exact .cons ⟨h1,h2⟩ ih
theorem KV.length{kvs:List (κ×V)}{vs:List (κ×Value)}(r:KV kvs vs):kvs.length=vs.length:=Paired.length r
theorem Qjl(kvs:List (κ×V))(k:κ):(Qea kvs k).length<=kvs.length:=WA _ _
end
theorem Qjm{P:Program}{w:World}{k:Key}{u:Value}(r:RelV (kV k) u):(Z6 P w).is k u=true:=by
 cases k with
 |inl i=>obtain⟨t,e⟩:=(show ∃t,u=Value.int i t from r);subst e;exact QeF P w i t
 |inr x=>obtain⟨t,e⟩:=(show ∃t,u=Value.str x t from r);subst e;exact QeG P w x t
section
variable{P:Program}{w:World}{H:Hp}{h:Heap}{a:Addr}
theorem Qn5{u:HO}(ok:HOk P w H h)(e:Rd H a u):ObjOk P w H h a u:=e.ok ok
theorem Qm8{kvs:List (Key×V)}(ok:HOk P w H h)(e:Rd H a (.dK kvs)):kvs.length<=sizeLine/\(a == sysModules)=false/\∃vs,KV kvs vs/\h.DictOf (Z6 P w) a vs :=
 show ObjOk P w H h a (.dK kvs) from Qn5 ok e
theorem QeX{kvs:List (Key×V)}(ok:HOk P w H h)(e:H a=some (.dK kvs)):kvs.length<=sizeLine/\(a == sysModules)=false/\∃vs,KV kvs vs/\h.DictOf (Z6 P w) a vs:=Qm8 ok (.inl e)
end
section
variable{X:Cx}{pins:List (Addr×Obj)}{σ:St}{H:Hp}{s:Shared}{a:Addr}{y v:V}{u r:Value}{o:Option V}{A:Around}{E:Value->Shared->Prop}
theorem Inv.big(I:Inv X pins σ H s):sysModules<s.heap.objs.size:=by
 have h:mainGlobals<s.heap.objs.size:=(I.mod.glob.keeps I.bk).lt
 exact Nat.lt_trans (by decide) h
theorem QeY{h':Heap}{t':Nat}{ob:HO}(I:Inv X pins σ H s)(mu:Mut (H a))(hs:Heap.SameBut a s.heap h')(he:∃q,h'.get? a=some q)(new:ObjOk X.prog X.w (upd H a ob) h' a ob):
  Inv X pins σ (upd H a ob) {s with heap:=h',toks:=t'} :=
 I.write (x:=a) (e:=a) mu (.inl rfl) (λb q hb z=>(hs.2 b hb).trans z) he new
theorem Qh1{P:Program}{w:World}{H':Hp}{h':Heap}{kvs:List (Key×V)}{vs:List (Key×Value)}(z:kvs.length<=sizeLine)(hd:(a == sysModules)=false)(rel:KV kvs vs)(dd:h'.DictOf (Z6 P w) a vs):
  ObjOk P w H' h' a (.dK kvs):=⟨z,hd,vs,rel,dd⟩
end
section
variable{X:Cx}{pins:List (Addr×Obj)}{σ:St}{H:Hp}{s:Shared}{a:Addr}{kvs:List (Key×V)}{k:Key}{u:Value}{A:Around}{E:Value->Shared->Prop}
theorem Qn6{v:V}{more:List Value}{Q:Value->Shared->Prop}(I:Inv X pins σ H s)(e:H a=some (.dK kvs))(ry:RelV (kV k) u)(l:valV kvs k=some v)(hm:more=[]\/∃x,more=[x])(h:∀w' s',Inv X pins σ (upd H a (.dK (Qea kvs k))) s'->RelV v w'->Q w' s'):wpAny (model X.prog X.w) A (call (.builtin "dict.pop") (.ref a::u::more)) Q E s:=by
 obtain⟨z,hd,vs,rel,dd⟩:=QeX I.hok e
 obtain⟨w',hw,rw'⟩:=RelO.some_of (v:=v) (o:=valueAt vs k) (by rw[<-l];exact rel.val k)
 have hp:(keyPart u).isSome=true:=by
  cases k with
  |inl i=>obtain⟨t,q⟩:=(show ∃t,u=Value.int i t from ry);subst q;rfl
  |inr x=>obtain⟨t,q⟩:=(show ∃t,u=Value.str x t from ry);subst q;rfl
 have ha:argsOk "dict.pop" ⟨.ref a::u::more,[]⟩:=by
  rcases hm with q|⟨x,q⟩
  ·subst q;exact PySem.F.args_dict_pop_2 _ _
  ·subst q;exact PySem.F.args_dict_pop_3 _ _ _
 refine call_meetsIn WB dd.typeIs PySem.F.entry_dict_pop ha (meets_dict_pop_there (Z6 X.prog X.w) a (Qjm ry) more hm hp)
  ⟨vs,w',dd,by rw[<-rel.length];exact z,hw,λh' dd' hs=>h w' _ ?_ rw'⟩
 have he:∃q,h'.get? a=some q:=let ⟨q,_,_,hq,_⟩:=dd';⟨q,hq⟩
 exact QeY I (by rw[e];exact True.intro) hs he (Qh1 (Ux (Qjl kvs k) z) hd (rel.drop k) dd')
end
section
variable{X:Cx}{o i e value:Expr}{pos pos' tpos:Pos}{td ty tv:TE}
end
theorem QfS{P:Program}{w:World}{H:Hp}(h:Heap)(hb:sysModules<h.objs.size):ObjOk P w H (h.push {cls:=.type "dict",data:=.dict #[]}) h.objs.size (.dK []) :=
 ⟨TX _,UT.mpr (Ne.symm (UE hb)),[],.nil,Heap.DictOf.new h⟩
noncomputable def Qm9:TE:=λ_ H Q=>∀p,H p=none->Q (.ref p) (upd H p (.dK []))
section
variable{X:Cx}{pos:Pos}
theorem Qjn:PE X (.Dict [] [] pos) Qm9:=λpins s σ H Q I h =>
 wpAny_Dict_empty ⟨.ref s.heap.objs.size,_,I.laid (a:=s.heap.objs.size) (o:=.dK []) (t':=s.toks) (λ_ _ q=>Ub _ q) (Ug _) (QfS s.heap I.big),rfl,h _ (I.hok.fresh (Ug _))⟩
end
section
variable{X:Cx}{pins:List (Addr×Obj)}{σ:St}{H:Hp}{s:Shared}{a:Addr}{y d:V}{u r:Value}{o:Option V}{A:Around}{E:Value->Shared->Prop}
end
section
variable{X:Cx}{o e f:Expr}{apos cpos:Pos}{td ty tx:TE}
end
section
variable{X:Cx}{pins:List (Addr×Obj)}{σ:St}{H:Hp}{s:Shared}{a:Addr}{kvs:List (Key×V)}{A:Around}{E:Value->Shared->Prop}
theorem Qjo{Q:Value->Shared->Prop}(I:Inv X pins σ H s)(e:Rd H a (.dK kvs))(h:∀p s',H p=none->Inv X pins σ (upd H p (.dK kvs)) s'->Q (.ref p) s'):wpAny (model X.prog X.w) A (call (.type "dict") [.ref a]) Q E s:=by
 obtain⟨z,hd,vs,rel,dd⟩:=Qm8 I.hok e
 refine kt_call_dict hd dd (by rw[<-rel.length];exact z) λh' dd' hs=>?_
 refine h _ _ (I.hok.fresh (Ug _)) (I.laid (a:=s.heap.objs.size) (o:=.dK kvs) (t':=s.toks) (λb q hq=>?_) (Ug _) (Qh1 z (UT.mpr (Ne.symm (UE I.big))) rel dd'))
 exact(hs.2 b (UE (Uk hq))).trans (Ub _ hq)
end
section
variable{X:Cx}{pins:List (Addr×Obj)}{σ:St}{H:Hp}{s:Shared}{a:Addr}{y:V}{u:Value}{A:Around}{E:Value->Shared->Prop}
end
end L2
namespace L3
open PySem
noncomputable abbrev DK:=Sum Int Str
noncomputable def dGet(ks:List (DK×D))(k:DK):Option D:=(ks.find? λp=>decide (p.1=k)).map (·.2)
noncomputable def dPut(ks:List (DK×D))(k:DK)(v:D):List (DK×D):=if (ks.any λp=>decide (p.1=k))=true then ks.map λp=>if p.1=k then (p.1,v) else p else ks++[(k,v)]
noncomputable def Qbz(ks:List (DK×D))(k:DK):List (DK×D):=ks.filter λp=>decide (p.1≠k)
noncomputable def Qna:ME:=λ_ g=>.ok (.ref g.length) (g++[.dct []])
noncomputable def Qjp(x:D)(g:G):Res D:=match x with
 |.ref n=>(match g[n]? with
  |some (.dct ks)=>.ok (.ref g.length) (g++[.dct ks])
  |_=>.stuck)
 |_=>.stuck
noncomputable def Qal(o k x:ME):ME:=λσ g=>(o σ g).bind λa g1=>match a with
 |.ref n=>(match g1[n]? with
  |some (.dct _)=>(k σ g1).bind λy g2=>(x σ g2).bind λz g3=>(match y with
   |.int i=>(match g3[n]? with
    |some (.dct ks)=>.ok ((dGet ks (.inl i)).getD z) g3
    |_=>.stuck)
   |_=>.stuck)
  |_=>.stuck)
 |_=>.stuck
noncomputable def Qjq(o k:ME):ME:=λσ g=>(o σ g).bind λa g1=>match a with
 |.ref n=>(match g1[n]? with
  |some (.dct _)=>(k σ g1).bind λy g2=>(match y with
   |.int i=>(match g2[n]? with
    |some (.dct ks)=>(match dGet ks (.inl i) with
     |some v=>.ok v (g2.set n (.dct (Qbz ks (.inl i))))
     |none=>.stuck)
    |_=>.stuck)
   |_=>.stuck)
  |_=>.stuck)
 |_=>.stuck
noncomputable def Qjr(o k v:ME):MS:=λσ g=>match v σ g with
 |.ok y g1=>(match o σ g1 with
  |.ok (.ref n) g2=>(match k σ g2 with
   |.ok (.int i) g3=>(match g3[n]? with
    |some (.dct ks)=>if ks.length<SZ then .nx σ (g3.set n (.dct (dPut ks (.inl i) y))) else .stuck
    |_=>.stuck)
   |.raise e g'=>.raise e σ g'
   |_=>.stuck)
  |.raise e g'=>.raise e σ g'
  |_=>.stuck)
 |.raise e g'=>.raise e σ g'
 |.stuck=>.stuck
end L3
namespace L3
open PySem PySem.Spec PyProof.Rows L2
section
variable{K:Frag}{μ:List Addr}{H:Hp}
theorem KRel.get{kv:List (Key×V)}{ks:List (Key×D)}(r:KRel K μ H kv ks)(k:Key):(valV kv k=none/\dGet ks k=none)\/∃v d,valV kv k=some v/\dGet ks k=some d/\Den K μ H v d:=by
 unfold KRel at r
 induction r with
 |nil=>exact .inl ⟨rfl,rfl⟩
 |@cons p q ps qs h t ih =>
  obtain⟨h1,h2⟩:=h
  by_cases e:p.1=k
  ·refine .inr ⟨p.2,q.2,QfQ e,?_,h2⟩
   unfold dGet;rw[UA,Us (h1.symm.trans e)];rfl
  ·have e':dGet (q::qs) k=dGet qs k:=by
    unfold dGet;rw[UA,Uq (λz=>e (h1.trans z))]
   rw[QfR e,e'];exact ih
theorem KRel.put{kv:List (Key×V)}{ks:List (Key×D)}{v:V}{d:D}(r:KRel K μ H kv ks)(k:Key)(h:Den K μ H v d):KRel K μ H (putK kv k v) (dPut ks k d):=by
 have ha:(kv.any λp=>decide (p.1=k))=ks.any λp=>decide (p.1=k):=by
  unfold KRel at r
  induction r with
  |nil=>rfl
  |cons h t ih=>rw[Tz,Tz,ih,h.1]
 unfold putK dPut
 rw[ha]
 by_cases e:(ks.any λp=>decide (p.1=k))=true
 ·rw[Uc e,Uc e]
  clear ha e
  unfold KRel at r ⊢
  induction r with
  |nil=>exact .nil
  |@cons p q ps qs hp t ih =>
   rw[UH,UH]
   refine .cons ?_ ih
   obtain⟨h1,h2⟩:=hp
   by_cases e:p.1=k
   ·rw[Uc e,Uc (h1.symm.trans e)];exact⟨h1,h⟩
   ·rw[Uh e,Uh (λz=>e (h1.trans z))];exact⟨h1,h2⟩
 ·rw[Uh e,Uh e];exact Paired.snoc r ⟨rfl,h⟩
theorem KRel.drop{kv:List (Key×V)}{ks:List (Key×D)}(r:KRel K μ H kv ks)(k:Key):KRel K μ H (Qea kv k) (Qbz ks k):=by
 unfold KRel at r ⊢
 unfold Qea Qbz
 induction r with
 |nil=>exact .nil
 |@cons p q ps qs h t ih =>
  obtain⟨h1,h2⟩:=h
  rw[U8,U8,<-h1]
  by_cases e:decide (p.1≠k)=true
  ·rw[Uc e,Uc e];exact .cons ⟨h1,h2⟩ ih
  ·rw[Uh e,Uh e];exact ih
end
section
variable{X:Cx}
theorem Qjs:MtR X "dict.get" (λx vs H Q=>∃a kvs k d,x=.ref a/\vs=[kV k,d]/\H a=some (.dK kvs)/\Q ((valV kvs k).getD d) H):=by
 intro pins s σ H x vs v us Q I rx rv h
 obtain⟨a,kvs,k,d,rfl,rfl,e,q⟩:=h
 cases rx
 cases rv with
 |cons ry r2=>cases r2 with
  |cons rd r3 =>
   cases r3
   obtain⟨z,hd,vs,rel,dd⟩:=QeX I.hok e
   exact call_meetsIn WC dd.typeIs PySem.F.entry_dict_get (PySem.F.args_dict_get_3 _ _ _) (meets_dict_get_default (Z6 X.prog X.w) a (Qjm ry) hd _) ⟨_,dd.mapOf,_,H,I.tok _,(rel.val k).getD rd,q⟩
theorem Qlt:MtR X "dict.pop" (λx vs H Q=>∃a kvs k v,x=.ref a/\vs=[kV k]/\H a=some (.dK kvs)/\valV kvs k=some v/\Q v (upd H a (.dK (Qea kvs k)))):=by
 intro pins s σ H x vs v us Q I rx rv h
 obtain⟨a,kvs,k,w,rfl,rfl,e,l,q⟩:=h
 cases rx
 obtain⟨u,rfl,ru⟩:=rv.one
 exact Qn6 I e ru l (.inl rfl) λw' s' I' rw'=>⟨_,_,I',rw',q⟩
theorem Qjt:PSet X (λo i v H Q=>∃a kvs k,o=.ref a/\i=kV k/\H a=some (.dK kvs)/\kvs.length<sizeLine/\Q (upd H a (.dK (putK kvs k v)))):=by
 intro pins s σ H o i v ov iv u Q I ro ri rv h
 obtain⟨a,kvs,k,rfl,rfl,e,l,q⟩:=h
 cases ro
 obtain⟨z,hd,vs,rel,dd⟩:=QeX I.hok e
 have hz:vs.length<=sizeLine:=by rw[<-rel.length];exact z
 have hl:(putK kvs k v).length<=sizeLine:=by have:=QeW kvs k v;omega
 refine wpAny_setItem_pairs (hsz:=hz) (Qjm ri) dd λh' dd' hs=>?_
 have he:∃q,h'.get? a=some q:=let ⟨q,_,_,hq,_⟩:=dd';⟨q,hq⟩
 exact⟨_,QeY I (by rw[e];exact True.intro) hs he (Qh1 hl hd (rel.put k rv) dd'),q⟩
theorem QgA:CallR X (.type "dict") (λxs H Q=>∃a kvs,xs=[.ref a]/\H a=some (.dK kvs)/\∀p,H p=none->Q (.ref p) (upd H p (.dK kvs))):=by
 intro pins s σ H xs us Q I rv h
 obtain⟨a,kvs,rfl,e,q⟩:=h
 obtain⟨u,rfl,ru⟩:=rv.one
 cases ru
 exact Qjo I (.inl e) λp s' hp I'=>⟨.ref p,_,I',rfl,q p hp⟩
end
section
variable{X:Cx}{ca:Nat->Addr}{o e f:Expr}{mo me mf:ME}{p pos apos:Pos}
theorem Qnb:PE3 ca X (.Dict [] [] pos) Qna :=
 λpn Φ=>Zf (Qjn (X:=xat X ca pn Φ)) λσ H Q ⟨σ3,g,μ,R,q⟩=>λt ht=>q _ _ (μ++[t]) (QS ht) (R.g.push ht ⟨[],Qq,.nil⟩) (.ref (by rw[<-R.g.len];simp))
theorem Qnc(hm:X.mg "dict" = none)(he:PE3 ca X e me)(hg:Gl X "dict":=by rfl)(hs:starEach [e] X.env=[(false,eval e X.env)]:=by rfl)(hpl:(backTo pos (starEach [] X.env)).any (·.1)=false:=by rfl):
  PE3 ca X (.Call (.Name "dict" p) [e] [] pos) (mOp1 Qjp me) :=
 r_ty (λ_ _=>QgA) hm boot_dict (λΦ σ H μ g y d Q r q pp=>by
  unfold Qjp at pp
  cases q with
  |@ref n t hn =>
   dsimp only at pp
   cases hgn:g[n]? with
   |none=>rw[hgn]at pp;exact pp.elim
   |some ob =>
    rw[hgn]at pp
    obtain⟨t',ht',orp⟩:=r.addr hgn
    rw[hn]at ht';cases ht'
    cases ob with
    |dct ks=>obtain⟨kv,hH,q⟩:=orp;exact⟨t,kv,rfl,hH,λl hl=>pp _ _ (μ++[l]) (QS hl) (r.push hl ⟨kv,Qq,q.mono (QS hl)⟩) (.ref (by rw[<-r.len];simp))⟩
    |_=>exact pp.elim
  |_=>exact pp.elim) he hg (by decide) (by decide) hs hpl
theorem QeZ(ho:PE3 ca X o mo)(he:PE3 ca X e me)(hf:PE3 ca X f mf)(hbase:attributeBase o "get" X.env (eval o X.env)=eval o X.env:=by rfl)(hfew:((backTo pos (starEach [e,f] X.env)).all (λx=>!x.1) && (backToKw pos (keywordEach [] X.env)).all (λx=>x.1.isSome) && decide ([e,f].length+([]:List Keyword).length+(if ([]:List Keyword).isEmpty then 0 else 1)<30))=true:=by rfl)(hline:(apos.endLine == pos.line)=true:=by rfl)(hs:starEach [e,f] X.env=(false,eval e X.env)::starEach [f] X.env:=by rfl)(hs2:starEach [f] X.env=(false,eval f X.env)::starEach [] X.env:=by rfl)(hplain:(backTo pos (starEach [f] X.env)).any (·.1)=false:=by rfl):
  PE3 ca X (.Call (.Attribute o "get" apos) [e,f] [] pos) (Qal mo me mf) :=
 λpn Φ=>Zf (Qk8 (X:=xat X ca pn Φ) R0 WC PySem.F.type_dict_get Qjs (ho pn Φ) (ZR he (ZR hf Qp hs2) hs pn Φ) hbase hfew hline hs hplain) λσ H Q ⟨σ3,g,μ,R,q⟩=>Zm (Jy R q) λx H1 hQ=>by
  obtain⟨d,g1,μ1,e1,R1,q1,p1⟩:=hQ
  cases q1 with
  |@ref n t hn =>
   dsimp only at p1
   cases hgn:g1[n]? with
   |none=>rw[hgn]at p1;exact p1.elim
   |some ob =>
    rw[hgn]at p1
    obtain⟨t',ht',orp⟩:=R1.g.addr hgn
    rw[hn]at ht';cases ht'
    cases ob with
    |dct ks0 =>
     obtain⟨kv0,hH0,_⟩:=orp
     dsimp only at p1
     refine⟨.inr (.inr (.inl ⟨rfl,.inl ⟨_,hH0⟩⟩)),σ3,g1,μ1,R1,?_⟩
     unfold Qb mNil
     cases hm:me σ3 g1 with
     |raise _ _=>rw[hm]at p1;exact p1
     |stuck=>rw[hm]at p1;exact p1.elim
     |ok y g2 =>
      rw[hm,Res.bind_ok]at p1
      rw[Res.bind_ok]
      cases hm2:mf σ3 g2 with
      |raise _ _=>rw[hm2]at p1;exact p1
      |stuck=>rw[hm2]at p1;exact p1.elim
      |ok z g3 =>
       rw[hm2,Res.bind_ok]at p1
       rw[Res.bind_ok,Res.bind_ok,Res.bind_ok]
       intro vs H2 μ2 e2 r2 q2
       cases q2 with
       |cons h1 h2=>cases h2 with
        |cons h2 h3 =>
         cases h3
         cases h1 with
         |int i =>
          dsimp only at p1
          cases hg2:g3[n]? with
          |none=>rw[hg2]at p1;exact p1.elim
          |some ob2 =>
           rw[hg2]at p1
           obtain⟨t',ht',orp⟩:=r2.addr hg2
           rw[e2.at hn]at ht';cases ht'
           cases ob2 with
           |dct ks =>
            obtain⟨kv,hH,qs⟩:=orp
            dsimp only at p1
            refine⟨t,kv,.inl i,_,rfl,rfl,hH,p1 _ _ μ2 e2 r2 ?_⟩
            rcases qs.get (.inl i) with⟨a,b⟩|⟨v,d,a,b,c⟩
            ·rw[a,b];exact h2
            ·rw[a,b];exact c
           |_=>exact p1.elim
         |_=>exact p1.elim
    |_=>exact p1.elim
  |_=>exact p1.elim
theorem Qnd(ho:PE3 ca X o mo)(he:PE3 ca X e me)(hbase:attributeBase o "pop" X.env (eval o X.env)=eval o X.env:=by rfl)(hfew:((backTo pos (starEach [e] X.env)).all (λx=>!x.1) && (backToKw pos (keywordEach [] X.env)).all (λx=>x.1.isSome) && decide ([e].length+([]:List Keyword).length+(if ([]:List Keyword).isEmpty then 0 else 1)<30))=true:=by rfl)(hline:(apos.endLine == pos.line)=true:=by rfl)(hs:starEach [e] X.env=(false,eval e X.env)::starEach [] X.env:=by rfl)(hplain:(backTo pos (starEach [] X.env)).any (·.1)=false:=by rfl):
  PE3 ca X (.Call (.Attribute o "pop" apos) [e] [] pos) (Qjq mo me) :=
 λpn Φ=>Zf (Qk8 (X:=xat X ca pn Φ) R0 WB PySem.F.type_dict_pop Qlt (ho pn Φ) (ZR he Qp hs pn Φ) hbase hfew hline hs hplain) λσ H Q ⟨σ3,g,μ,R,q⟩=>Zm (Jy R q) λx H1 hQ=>by
  obtain⟨d,g1,μ1,e1,R1,q1,p1⟩:=hQ
  cases q1 with
  |@ref n t hn =>
   dsimp only at p1
   cases hgn:g1[n]? with
   |none=>rw[hgn]at p1;exact p1.elim
   |some ob =>
    rw[hgn]at p1
    obtain⟨t',ht',orp⟩:=R1.g.addr hgn
    rw[hn]at ht';cases ht'
    cases ob with
    |dct ks0 =>
     obtain⟨kv0,hH0,_⟩:=orp
     dsimp only at p1
     refine⟨.inr (.inr (.inl ⟨rfl,.inl ⟨_,hH0⟩⟩)),σ3,g1,μ1,R1,?_⟩
     unfold Qb mNil
     cases hm:me σ3 g1 with
     |raise _ _=>rw[hm]at p1;exact p1
     |stuck=>rw[hm]at p1;exact p1.elim
     |ok y g2 =>
      rw[hm,Res.bind_ok]at p1
      rw[Res.bind_ok,Res.bind_ok]
      intro vs H2 μ2 e2 r2 q2
      cases q2 with
      |cons h1 h2 =>
       cases h2
       cases h1 with
       |int i =>
        dsimp only at p1
        cases hg2:g2[n]? with
        |none=>rw[hg2]at p1;exact p1.elim
        |some ob2 =>
         rw[hg2]at p1
         obtain⟨t',ht',orp⟩:=r2.addr hg2
         rw[e2.at hn]at ht';cases ht'
         cases ob2 with
         |dct ks =>
          obtain⟨kv,hH,qs⟩:=orp
          dsimp only at p1
          rcases qs.get (.inl i) with⟨a,b⟩|⟨v,d,a,b,c⟩
          ·rw[b]at p1;exact p1.elim
          ·rw[b]at p1
           have ex:Ext X.K μ2 H2 μ2 (upd H2 t (.dK (Qea kv (.inl i)))):=Y3 hH (by intro _ z;cases z) (by intro _ _ z;cases z)
           refine⟨t,kv,.inl i,v,rfl,rfl,hH,a,p1 _ _ μ2 (e2.trans ex) ?_ (c.mono ex)⟩
           exact r2.set (e2.at hn) hH (by intro _ z;cases z) (by intro _ _ z;cases z) ⟨_,Qq,(qs.mono ex).drop _⟩
         |_=>exact p1.elim
       |_=>exact p1.elim
    |_=>exact p1.elim
  |_=>exact p1.elim
theorem Qne{i:Expr}{mi:ME}{pos':Pos}(ho:PE3 ca X o mo)(hi:PE3 ca X i mi)(he:PE3 ca X e me)(hs:swapsWithSole [.Subscript o i pos'] e pos.line X.env=pure false:=by rfl)(hw:swappedStores [.Subscript o i pos'] e X.env=pure none:=by rfl)(h1:(assignEach [.Subscript o i pos'] X.env).map (·.2)=[assign (.Subscript o i pos') X.env]:=by rfl)(ha:∀v,assign (.Subscript o i pos') X.env v=(do
   let ov <-holding [v] (eval o X.env)
   let iv <-holding [v,ov] (eval i X.env)
   standAt pos'
   holding [v,ov,iv] (setItem ov iv v)
   release [v,ov,iv] []):=by intro _;rfl):PS3 ca X (.Assign [.Subscript o i pos'] e pos) (Qjr mo mi me) :=
 λpn Φ=>Z9 (Qfv (X:=xat X ca pn Φ) (he pn Φ) (Qg6 (X:=xat X ca pn Φ) (ho pn Φ) (hi pn Φ) Qjt ha) hs hw h1) λE σ H ⟨σ3,g,μ,R,p⟩=>⟨σ3,g,μ,R,by
  unfold Qjr at p
  cases hm:me σ3 g with
  |ok y g1 =>
   rw[hm]at p
   dsimp only at p
   intro vy H1 μ1 e1 r1 q1
   refine⟨σ3,g1,μ1,R.go e1 r1,?_⟩
   cases hm2:mo σ3 g1 with
   |ok d g2 =>
    rw[hm2]at p
    intro vx H2 μ2 e2 r2 q2
    cases q2 with
    |@ref n a hn =>
     dsimp only at p
     refine⟨σ3,g2,μ2,R.go (e1.trans e2) r2,?_⟩
     cases hm3:mi σ3 g2 with
     |ok di g3 =>
      rw[hm3]at p
      intro vi H3 μ3 e3 r3 q3
      cases q3 with
      |int k =>
       dsimp only at p
       cases hg:g3[n]? with
       |none=>rw[hg]at p;exact p.elim
       |some ob =>
        rw[hg]at p
        obtain⟨a',ha',orp⟩:=r3.addr hg
        rw[e3.at hn]at ha';cases ha'
        cases ob with
        |dct ks =>
         dsimp only at p
         obtain⟨kv,hH,q⟩:=orp
         by_cases z:ks.length<SZ
         ·rw[Uc z]at p
          have ex:Ext X.K μ3 H3 μ3 (upd H3 a (.dK (putK kv (.inl k) vy))):=Y3 hH (by intro _ z;cases z) (by intro _ _ z;cases z)
          refine⟨a,kv,.inl k,rfl,rfl,hH,by rw[Paired.length q];exact Uw z JA,?_⟩
          refine p σ _ μ3 (((e1.trans e2).trans e3).trans ex) ((R.go ((e1.trans e2).trans e3) r3).go ex ?_)
          exact r3.set (e3.at hn) hH (by intro _ z;cases z) (by intro _ _ z;cases z) ⟨_,Qq,(q.mono ex).put _ (((q1.mono e2).mono e3).mono ex)⟩
         ·rw[Uh z]at p;exact p.elim
        |_=>exact p.elim
      |_=>exact p.elim
     |raise _ _=>rw[hm3]at p;exact(RaP.stmt R p).go (e1.trans e2)
     |stuck=>rw[hm3]at p;exact p
    |_=>exact p.elim
   |raise _ _=>rw[hm2]at p;exact(RaP.stmt R p).go e1
   |stuck=>rw[hm2]at p;exact p
  |raise _ _=>rw[hm]at p;exact RaP.stmt R p
  |stuck=>rw[hm]at p;exact p⟩
end
end L3
namespace L3
open PySem
noncomputable def Qdg(x y:D)(g:G):Res D:=match x,y with
 |.int i,.int j=>.ok (.int (if j<i then j else i)) g
 |_,_=>.stuck
noncomputable def Qh2(x y:D)(g:G):Res D:=match x,y with
 |.int i,.int j=>.ok (.int (if i<j then j else i)) g
 |_,_=>.stuck
noncomputable def Yg:List (DK×D)->Option (List Int)
 |[]=>some []
 | (.inl i,_)::r=>(Yg r).map (i :: ·)
 |_::_=>none
noncomputable def Qa8(x:D)(g:G):Res D:=match x with
 |.ref n=>(match g[n]? with
  |some (.dct ks)=>(match Yg ks with
   |some is=>if is.length<=1000 then .ok (.ref g.length) (g++[.lst (is.map .int)]) else .stuck
   |none=>.stuck)
  |_=>.stuck)
 |_=>.stuck
noncomputable def pDIx(x y:D)(g:G):Res D:=match x,y with
 |.ref n,.int i=>(match g[n]? with
  |some (.dct ks)=>(match dGet ks (.inl i) with
   |some v=>.ok v g
   |none=>.stuck)
  |_=>.stuck)
 |_,_=>.stuck
noncomputable def minZ:List Int->Option Int
 |[]=>none
 |i::r=>(match minZ r with
  |none=>some i
  |some j=>some (if j<i then j else i))
noncomputable def maxZ:List Int->Option Int
 |[]=>none
 |i::r=>(match maxZ r with
  |none=>some i
  |some j=>some (if i<j then j else i))
noncomputable def Qh3(x:D)(g:G):Res D:=match x with
 |.ref n=>(match g[n]? with
  |some (.lst ds)=>(match Qbv ds with
   |some is=>(match minZ is with
    |some i=>.ok (.int i) g
    |none=>.stuck)
   |none=>.stuck)
  |_=>.stuck)
 |_=>.stuck
noncomputable def Qh4(x:D)(g:G):Res D:=match x with
 |.ref n=>(match g[n]? with
  |some (.lst ds)=>(match Qbv ds with
   |some is=>(match maxZ is with
    |some i=>.ok (.int i) g
    |none=>.stuck)
   |none=>.stuck)
  |_=>.stuck)
 |_=>.stuck
theorem Qdh:∀{is:List Int}{M:Int},minZ is=some M->M∈is/\∀a∈is,M<=a
 |[],_,h=>by cases h
 |i::r,M,h=>by
  unfold minZ at h
  cases hr:minZ r with
  |none =>
   rw[hr]at h
   cases h
   cases r with
   |nil=>exact⟨Ur ..,λa ha=>by rw[Uf.mp ha];exact Rf _⟩
   |cons j r' =>
    unfold minZ at hr
    cases h2:minZ r' with
    |none=>rw[h2]at hr;cases hr
    |some k=>rw[h2]at hr;cases hr
  |some j =>
   rw[hr]at h
   dsimp only at h
   obtain⟨q1,q2⟩:=Qdh hr
   by_cases z:j<i
   ·rw[Uc z]at h;cases h
    exact⟨Ut _ q1,λa ha=>by
     rcases Uu.mp ha with e|e
     ·omega
     ·exact q2 a e⟩
   ·rw[Uh z]at h;cases h
    exact⟨Ur ..,λa ha=>by
     rcases Uu.mp ha with e|e
     ·omega
     ·have:=q2 a e;omega⟩
theorem Qdi:∀{is:List Int}{M:Int},maxZ is=some M->M∈is/\∀a∈is,a<=M
 |[],_,h=>by cases h
 |i::r,M,h=>by
  unfold maxZ at h
  cases hr:maxZ r with
  |none =>
   rw[hr]at h
   cases h
   cases r with
   |nil=>exact⟨Ur ..,λa ha=>by rw[Uf.mp ha];exact Rf _⟩
   |cons j r' =>
    unfold maxZ at hr
    cases h2:maxZ r' with
    |none=>rw[h2]at hr;cases hr
    |some k=>rw[h2]at hr;cases hr
  |some j =>
   rw[hr]at h
   dsimp only at h
   obtain⟨q1,q2⟩:=Qdi hr
   by_cases z:i<j
   ·rw[Uc z]at h;cases h
    exact⟨Ut _ q1,λa ha=>by
     rcases Uu.mp ha with e|e
     ·omega
     ·exact q2 a e⟩
   ·rw[Uh z]at h;cases h
    exact⟨Ur ..,λa ha=>by
     rcases Uu.mp ha with e|e
     ·omega
     ·have:=q2 a e;omega⟩
end L3
namespace L3
open PySem PySem.Spec PyProof.Rows L2
section
variable{X:Cx}
theorem Qh5{i:Int}{v:Value}(h:QeE (.inl i) v=true):∃t,v=.int i t:=by
 rcases Q1 h with⟨j,t,e1,e2⟩|⟨x,t,e1,e2⟩
 ·cases e1;exact⟨t,e2⟩
 ·cases e1
theorem Qe0{kvs:List (Key×V)}{vs:List (Key×Value)}(rel:KV kvs vs):kvs.map (·.1)=vs.map (·.1):=by
 unfold KV at rel
 induction rel with
 |nil=>rfl
 |cons h t ih=>rw[UH,UH,ih,h.1]
theorem Qh6(hc:X.calm=true):CallR X (.type "list") (λxs H Q=>∃(a:Addr)(kvs:List (Key×V))(is:List Int),xs=[.ref a]/\H a=some (.dK kvs)/\kvs.map (·.1)=is.map Sum.inl/\∀l,H l=none->Q (.ref l) (upd H l (.lst (is.map V.int)))):=by
 intro pins s σ H xs us Q I rv h
 obtain⟨a,kvs,is,rfl,e,hk,q⟩:=h
 obtain⟨u,rfl,ru⟩:=rv.one
 cases ru
 obtain⟨z,hd,vs,rel,dd⟩:=QeX I.hok e
 obtain⟨ep,hat⟩:=dd.dictAt
 have hl:vs.length=is.length:=by rw[<-rel.length,<-Um (f:=λp:Key×V=>p.1),hk,Um]
 have hkv:kvs.length=is.length:=by rw[rel.length,hl]
 refine kdl_call (kdl_dict (knd:=Z6 X.prog X.w) (kvs:=vs) (ep:=ep) hd) (I.ok.hd hc) hat (by rw[<-rel.length];exact z) λh' tk acc' c' kp hD hacc=>?_
 refine⟨.ref s.heap.objs.size,_,I.laid (a:=s.heap.objs.size) (o:=.lst (is.map V.int)) (t':=tk) kp (Ug _) (show ObjOk X.prog X.w _ _ _ (.lst (is.map V.int)) from ⟨by rw[Um,<-hkv];exact z,acc'.toList,c',?_,hD⟩),rfl,q _ (I.hok.fresh (Ug _))⟩
 have key:∀(ws:List Value)(js:List Int),ws.length=js.length->(∀(j:Nat)(v:Value)(i:Int),ws[j]?=some v->js[j]?=some i->∃t,v=Value.int i t)->Vals (js.map V.int) ws:=by
  intro ws
  induction ws with
  |nil=>intro js h1 _;cases js with
   |nil=>exact .nil
   |cons _ _=>cases h1
  |cons w ws ih =>
   intro js h1 h2
   cases js with
   |nil=>cases h1
   |cons i js=>exact .cons (h2 0 w i rfl rfl) (ih js (by simpa using h1) λj v k a b=>h2 (j+1) v k a b)
 refine key _ _ (by rw[UY,hacc.1,hl]) λj v i hv hi=>?_
 obtain⟨k,x,hx,hkk⟩:=hacc.2 j v (by rw[<-Ww];exact hv)
 have h1:(vs.map (·.1))[j]?=some k:=by rw[UK,hx];rfl
 have hkeys:=Qe0 rel
 rw[<-hkeys,hk,UK,hi]at h1
 cases h1
 exact Qh5 hkk
theorem Qju:IxR X (λx y H Q=>∃a kvs k v,x=.ref a/\y=kV k/\H a=some (.dK kvs)/\valV kvs k=some v/\Q v H):=by
 intro value slice pins s σ H x y v u Q I rx ry h hs
 obtain⟨a,kvs,k,w,rfl,rfl,e,l,q⟩:=h
 cases rx
 obtain⟨z,hd,vs,rel,dd⟩:=QeX I.hok e
 obtain⟨w',hw,rw'⟩:=RelO.some_of (v:=w) (o:=valueAt vs k) (by rw[<-l];exact rel.val k)
 exact tail_any dd.typeIs RP.lookup (wpAny_getItem_of (Qjm ry) dd.mapOf hw ⟨_,H,I.tok _,rw',q⟩) hs
end
section
variable{X:Cx}{ca:Nat->Addr}{a b e f o:Expr}{ma mb me mf mo:ME}{p pos apos:Pos}
theorem Qjv{K:Frag}:Y4 K ca (λx y H Q=>∃a kvs k v,x=.ref a/\y=kV k/\H a=some (.dK kvs)/\valV kvs k=some v/\Q v H) pDIx:=by
 intro Φ σ H μ g x y dx dy Q r qx qy p
 unfold pDIx at p
 cases qx with
 |@ref n t hn =>
  cases qy with
  |int i =>
   dsimp only at p
   cases hg:g[n]? with
   |none=>rw[hg]at p;exact p.elim
   |some ob =>
    rw[hg]at p
    obtain⟨t',ht',orp⟩:=r.addr hg
    rw[hn]at ht';cases ht'
    cases ob with
    |dct ks =>
     obtain⟨kv,hH,q⟩:=orp
     dsimp only at p
     rcases q.get (.inl i) with⟨a,b⟩|⟨v,d,a,b,c⟩
     ·rw[b]at p;exact p.elim
     ·rw[b]at p
      exact⟨t,kv,.inl i,v,rfl,rfl,hH,a,p v H μ .refl r c⟩
    |_=>exact p.elim
  |_=>exact p.elim
 |_=>cases qy <;> exact p.elim
theorem Qn7(ha:PE3 ca X a ma)(hb:PE3 ca X b mb)(hs:QbU b:=by exact λ_ _=>rfl):PE3 ca X (.Subscript a b pos) (mOp2 pDIx ma mb):=r_ix (λ_ _=>Qju) Qjv ha hb hs
theorem KRel.keys{K:Frag}{μ:List Addr}{H:Hp}{kv:List (Key×V)}{ks:List (Key×D)}(r:KRel K μ H kv ks):kv.map (·.1)=ks.map (·.1):=by
 unfold KRel at r
 induction r with
 |nil=>rfl
 |cons h t ih=>rw[UH,UH,ih,h.1]
theorem Qb7:∀{ks:List (Key×D)}{is:List Int},Yg ks=some is->ks.map (·.1)=is.map Sum.inl
 |[],_,h=>by cases h;rfl
 | (.inl i,_)::r,is,h=>by
  have h:(Yg r).map (i :: ·)=some is:=h
  obtain⟨js,h1,h2⟩:=Tx.mp h
  subst h2
  rw[UH,UH,Qb7 h1]
theorem QkC(hc:X.calm=true)(hm:X.mg "list" = none)(he:PE3 ca X e me)(hg:Gl X "list":=by rfl)(hs:starEach [e] X.env=[(false,eval e X.env)]:=by rfl)(hpl:(backTo pos (starEach [] X.env)).any (·.1)=false:=by rfl):
  PE3 ca X (.Call (.Name "list" p) [e] [] pos) (mOp1 Qa8 me) :=
 r_ty (λpn Φ=>Qh6 (X:=xat X ca pn Φ) hc) hm boot_list (λΦ σ H μ g y d Q r q pp=>by
  unfold Qa8 at pp
  cases q with
  |@ref n t hn =>
   dsimp only at pp
   cases hgn:g[n]? with
   |none=>rw[hgn]at pp;exact pp.elim
   |some ob =>
    rw[hgn]at pp
    obtain⟨t',ht',orp⟩:=r.addr hgn
    rw[hn]at ht';cases ht'
    cases ob with
    |dct ks =>
     obtain⟨kv,hH,q⟩:=orp
     dsimp only at pp
     cases hk:Yg ks with
     |none=>rw[hk]at pp;exact pp.elim
     |some is =>
      rw[hk]at pp
      dsimp only at pp
      by_cases z:is.length<=1000
      ·rw[Uc z]at pp
       have e1:kv.map (·.1)=ks.map (·.1):=q.keys
       exact⟨t,kv,is,rfl,hH,by rw[e1];exact Qb7 hk,λl hl=>pp _ _ (μ++[l]) (QS hl) (r.push hl ⟨_,Qq,QeV _⟩) (.ref (by rw[<-r.len];simp))⟩
      ·rw[Uh z]at pp;exact pp.elim
    |_=>exact pp.elim
  |_=>exact pp.elim) he hg (by decide) (by decide) hs hpl
theorem QkD{x:Str}{id:String}{r:List V->Hp->VK->Prop}{h:D->D->G->Res D}(hc:∀pn Φ,CallR (xat X ca pn Φ) (.builtin id) r)(hm:X.mg x=none)(hv:bootBuiltins x=some (.builtin id))(hp:∀(Φ:XS) (σ:L2.St) (H:Hp) (μ:List Addr) (g:G) (y z:V) (d c:D) (Q:VK),GRep X.K ca μ H g->Den X.K μ H y d->Den X.K μ H z c->Post X.K ca Φ σ Q H μ (h d c g)->r [y,z] H Q)(he:PE3 ca X e me)(hf:PE3 ca X f mf)(hg:Gl X x)(hn:x ≠ "__name__")(hdb:(x == ("__debug__" : Str))=false)(hs:starEach [e,f] X.env=(false,eval e X.env)::starEach [f] X.env)(hs2:starEach [f] X.env=(false,eval f X.env)::starEach [] X.env)(hpl:(backTo pos (starEach [f] X.env)).any (·.1)=false):PE3 ca X (.Call (.Name x p) [e,f] [] pos) (mOp2 h me mf) :=
 λpn Φ=>Zf (Qc1 (X:=xat X ca pn Φ) (hc pn Φ) hg hm hv (ZR he (ZR hf Qp hs2) hs pn Φ) hn hdb hs hpl) λσ H Q hQ=>by
  obtain⟨σ3,g,μ,R,q⟩:=hQ
  refine⟨σ3,g,μ,R,?_⟩
  unfold mOp2 at q
  unfold Qb mNil
  cases hm:me σ3 g with
  |raise _ _=>rw[hm]at q;exact q
  |stuck=>rw[hm]at q;exact q.elim
  |ok d g1 =>
   rw[hm,Res.bind_ok]at q
   rw[Res.bind_ok]
   cases hm2:mf σ3 g1 with
   |raise _ _=>rw[hm2]at q;exact q
   |stuck=>rw[hm2]at q;exact q.elim
   |ok c g2 =>
    rw[hm2,Res.bind_ok]at q
    rw[Res.bind_ok,Res.bind_ok,Res.bind_ok]
    intro vs H1 μ1 e1 r1 q1
    cases q1 with
    |cons h1 h2=>cases h2 with
     |cons h2 h3 =>
      cases h3
      exact hp Φ σ H1 μ1 g2 _ _ d c Q r1 h1 h2 (q.go e1)
theorem Qh7(hc:X.calm=true)(hm:X.mg "min" = none)(he:PE3 ca X e me)(hf:PE3 ca X f mf)(hg:Gl X "min":=by rfl)(hs:starEach [e,f] X.env=(false,eval e X.env)::starEach [f] X.env:=by rfl)(hs2:starEach [f] X.env=(false,eval f X.env)::starEach [] X.env:=by rfl)(hpl:(backTo pos (starEach [f] X.env)).any (·.1)=false:=by rfl):
  PE3 ca X (.Call (.Name "min" p) [e,f] [] pos) (mOp2 Qdg me mf) :=
 QkD (λpn Φ=>Qhf (X:=xat X ca pn Φ) hc) hm boot_min (λΦ σ H μ g y z d c Q r q1 q2 pp=>by
  unfold Qdg at pp
  cases q1 with
  |int i =>
   cases q2 with
   |int j=>exact⟨i,j,rfl,pp _ H μ .refl r (.int _)⟩
   |_=>exact pp.elim
  |_=>cases q2 <;> exact pp.elim) he hf hg (by decide) (by decide) hs hs2 hpl
theorem QkE(hc:X.calm=true)(hm:X.mg "max" = none)(he:PE3 ca X e me)(hf:PE3 ca X f mf)(hg:Gl X "max":=by rfl)(hs:starEach [e,f] X.env=(false,eval e X.env)::starEach [f] X.env:=by rfl)(hs2:starEach [f] X.env=(false,eval f X.env)::starEach [] X.env:=by rfl)(hpl:(backTo pos (starEach [f] X.env)).any (·.1)=false:=by rfl):
  PE3 ca X (.Call (.Name "max" p) [e,f] [] pos) (mOp2 Qh2 me mf) :=
 QkD (λpn Φ=>Qhe (X:=xat X ca pn Φ) hc) hm boot_max (λΦ σ H μ g y z d c Q r q1 q2 pp=>by
  unfold Qh2 at pp
  cases q1 with
  |int i =>
   cases q2 with
   |int j=>exact⟨i,j,rfl,pp _ H μ .refl r (.int _)⟩
   |_=>exact pp.elim
  |_=>cases q2 <;> exact pp.elim) he hf hg (by decide) (by decide) hs hs2 hpl
theorem Qh8(hc:X.calm=true):CallR X (.builtin "min") (λxs H Q=>∃(a:Addr)(ns:List Int)(M:Int),xs=[.ref a]/\SqL X.K H a (ns.map V.int)/\minZ ns=some M/\Q (.int M) H):=by
 intro pins s σ H xs us Q I rv h
 obtain⟨a,ns,M,rfl,hq,hM,q⟩:=h
 obtain⟨u,rfl,ru⟩:=rv.one
 cases ru
 obtain⟨its,r,pl,hz⟩:=I.list hq
 have hi:=intsAre_of r
 obtain⟨m1,m2⟩:=Qdh hM
 obtain⟨xs,hxs⟩:=hi.allInts.items
 have hl:=pl.isList
 rw[hxs]at hl
 have hns:numsOf (intItems xs).toList=ns:=by rw[<-hxs];exact hi.numsOf
 rw[nums_intItems]at hns
 have hlen:xs.size=ns.length:=by rw[<-hns,Um,UY]
 have hsz:0<xs.size:=by rw[hlen];exact Wm m1
 refine min_intList (I.ok.hd hc) hl hsz λv h' tk hv hk=>?_
 obtain⟨t,rfl⟩:=intItems_at hv
 obtain⟨h1,h2⟩:=argBest_lt (numAt xs) (xs.size-1)
 have e:numAt xs (argBest (λi j=>decide (numAt xs i<numAt xs j)) (xs.size-1))=M:=by
  have b1:numAt xs (argBest (λi j=>decide (numAt xs i<numAt xs j)) (xs.size-1))∈ns:=by
   rw[<-hns,numAt_eq];exact getD_mem (by rw[Um,UY];omega)
  have b2:numAt xs (argBest (λi j=>decide (numAt xs i<numAt xs j)) (xs.size-1))<=M:=by
   rw[<-hns]at m1
   obtain⟨j,hj,e⟩:=mem_getD m1
   rw[Um,UY]at hj
   rw[<-e,<-numAt_eq];exact h2 j (by omega)
  have b3:=m2 _ b1
  omega
 exact⟨.int M,H,I.kept hk,⟨t,by rw[<-e]⟩,q⟩
theorem Qh9(hc:X.calm=true):CallR X (.builtin "max") (λxs H Q=>∃(a:Addr)(ns:List Int)(M:Int),xs=[.ref a]/\SqL X.K H a (ns.map V.int)/\maxZ ns=some M/\Q (.int M) H):=by
 intro pins s σ H xs us Q I rv h
 obtain⟨a,ns,M,rfl,hq,hM,q⟩:=h
 obtain⟨u,rfl,ru⟩:=rv.one
 cases ru
 obtain⟨its,r,pl,hz⟩:=I.list hq
 have hi:=intsAre_of r
 obtain⟨m1,m2⟩:=Qdi hM
 obtain⟨xs,hxs⟩:=hi.allInts.items
 have hl:=pl.isList
 rw[hxs]at hl
 have hns:numsOf (intItems xs).toList=ns:=by rw[<-hxs];exact hi.numsOf
 rw[nums_intItems]at hns
 have hlen:xs.size=ns.length:=by rw[<-hns,Um,UY]
 have hsz:0<xs.size:=by rw[hlen];exact Wm m1
 refine max_intList (I.ok.hd hc) hl hsz λv h' tk hv hk=>?_
 obtain⟨t,rfl⟩:=intItems_at hv
 obtain⟨h1,h2⟩:=argBest_gt (numAt xs) (xs.size-1)
 have e:numAt xs (argBest (λi j=>decide (numAt xs i > numAt xs j)) (xs.size-1))=M:=by
  have b1:numAt xs (argBest (λi j=>decide (numAt xs i > numAt xs j)) (xs.size-1))∈ns:=by
   rw[<-hns,numAt_eq];exact getD_mem (by rw[Um,UY];omega)
  have b2:numAt xs (argBest (λi j=>decide (numAt xs i > numAt xs j)) (xs.size-1))>=M:=by
   rw[<-hns]at m1
   obtain⟨j,hj,e⟩:=mem_getD m1
   rw[Um,UY]at hj
   rw[<-e,<-numAt_eq];exact h2 j (by omega)
  have b3:=m2 _ b1
  omega
 exact⟨.int M,H,I.kept hk,⟨t,by rw[<-e]⟩,q⟩
theorem QcS{Z:List Int->Option Int}{f:D->G->Res D}{Φ:XS}{σ:L2.St}{H:Hp}{μ:List Addr}{g:G}{y:V}{d:D}{Q:VK}(hf:∀x g,f x g=match x with
  |.ref n=>(match g[n]? with
   |some (.lst ds)=>(match Qbv ds with
    |some is=>(match Z is with
     |some i=>.ok (.int i) g
     |none=>.stuck)
    |none=>.stuck)
   |_=>.stuck)
  |_=>.stuck)(r:GRep X.K ca μ H g)(q:Den X.K μ H y d)(pp:Post X.K ca Φ σ Q H μ (f d g)):∃(a:Addr)(ns:List Int)(M:Int),[y]=[V.ref a]/\SqL X.K H a (ns.map V.int)/\Z ns=some M/\Q (.int M) H:=by
 rw[hf]at pp
 cases q with
 |@ref n t hn =>
  dsimp only at pp
  cases hgn:g[n]? with
  |none=>rw[hgn]at pp;exact pp.elim
  |some ob =>
   rw[hgn]at pp
   obtain⟨t',ht',orp⟩:=r.addr hgn
   rw[hn]at ht';cases ht'
   cases ob with
   |lst ds =>
    obtain⟨vs,hH,q⟩:=orp
    dsimp only at pp
    cases hi:Qbv ds with
    |none=>rw[hi]at pp;exact pp.elim
    |some is =>
     rw[hi]at pp
     dsimp only at pp
     cases hz:Z is with
     |none=>rw[hz]at pp;exact pp.elim
     |some M =>
      rw[hz]at pp
      have ew:=Qb1 q hi
      subst ew
      exact⟨t,is,M,rfl,.of hH,hz,pp _ H μ .refl r (.int _)⟩
   |_=>exact pp.elim
 |_=>exact pp.elim
theorem Qnf(hc:X.calm=true)(hm:X.mg "min" = none)(he:PE3 ca X e me)(hg:Gl X "min":=by rfl)(hs:starEach [e] X.env=[(false,eval e X.env)]:=by rfl)(hpl:(backTo pos (starEach [] X.env)).any (·.1)=false:=by rfl):
  PE3 ca X (.Call (.Name "min" p) [e] [] pos) (mOp1 Qh3 me) :=
 QhM (r:=λxs H Q=>∃(a:Addr)(ns:List Int)(M:Int),xs=[V.ref a]/\SqL X.K H a (ns.map V.int)/\minZ ns=some M/\Q (.int M) H) (λpn Φ=>Qh8 (X:=xat X ca pn Φ) hc) hm boot_min (λΦ σ H μ g y d Q r q pp=>QcS (λ_ _=>rfl) r q pp) he hg (by decide) (by decide) hs hpl
theorem Qng(hc:X.calm=true)(hm:X.mg "max" = none)(he:PE3 ca X e me)(hg:Gl X "max":=by rfl)(hs:starEach [e] X.env=[(false,eval e X.env)]:=by rfl)(hpl:(backTo pos (starEach [] X.env)).any (·.1)=false:=by rfl):
  PE3 ca X (.Call (.Name "max" p) [e] [] pos) (mOp1 Qh4 me) :=
 QhM (r:=λxs H Q=>∃(a:Addr)(ns:List Int)(M:Int),xs=[V.ref a]/\SqL X.K H a (ns.map V.int)/\maxZ ns=some M/\Q (.int M) H) (λpn Φ=>Qh9 (X:=xat X ca pn Φ) hc) hm boot_max (λΦ σ H μ g y d Q r q pp=>QcS (λ_ _=>rfl) r q pp) he hg (by decide) (by decide) hs hpl
end
end L3
namespace L3
open PySem
noncomputable def nGet(ks:List ((Int×Int×List (List Int))×D))(k:Int×Int×List (List Int)):Option D:=(ks.find? λp=>decide (p.1=k)).map (·.2)
noncomputable def QkF:ME:=λ_ g=>.ok (.ref g.length) (g++[.dcn []])
noncomputable def pInN(x y:D)(g:G):Res D:=match y with
 |.ref n=>(match g[n]?,skOf x with
  |some (.dcn ks),some k=>.ok (.bl (nGet ks k).isSome) g
  |_,_=>.stuck)
 |_=>.stuck
noncomputable def pIxN(x y:D)(g:G):Res D:=match x with
 |.ref n=>(match g[n]?,skOf y with
  |some (.dcn ks),some k=>(match nGet ks k with
   |some v=>.ok v g
   |none=>.stuck)
  |_,_=>.stuck)
 |_=>.stuck
noncomputable def Qeb(o k v:ME):MS:=λσ g=>match v σ g with
 |.ok y g1=>(match o σ g1 with
  |.ok (.ref n) g2=>(match k σ g2 with
   |.ok d g3=>(match g3[n]?,skOf d with
    |some (.dcn ks),some k=>if ks.length<SZ/\nGet ks k=none then .nx σ (g3.set n (.dcn (ks++[(k,y)]))) else .stuck
    |_,_=>.stuck)
   |.raise e g'=>.raise e σ g'
   |_=>.stuck)
  |.raise e g'=>.raise e σ g'
  |_=>.stuck)
 |.raise e g'=>.raise e σ g'
 |.stuck=>.stuck
noncomputable def pIsB(x y:D)(g:G):Res D:=match x,y with
 |.bl a,.bl b=>.ok (.bl (a == b)) g
 |_,_=>.stuck
noncomputable def JG(a b:ME):MI:=λσ g=>(a σ g).bind λx g1=>(b σ g1).bind λy g2=>(match x,y with
 |.int i,.int j=>if inR i/\inR j then .ok ⟨λ_ k=>some (if (k:Int)<i-j then some (.int (i-k)) else none),(i-j).toNat⟩ g2 else .stuck
 |_,_=>.stuck)
end L3
namespace L3
open PySem PySem.Spec PyProof.Rows L2
noncomputable def Itd'(lo:Int)(n:Nat):It:=⟨λi _=>i<n,λi H x H'=>H'=H/\x=.int (lo-i),λi _=>n<=i⟩
theorem Qia{P:Program}{w:World}{K:Frag}{tg:Expr}(it:Addr)(lo:Int)(n:Nat):Turn P w K tg (Itd' lo n) [it] it (λi h=>IsRangeIter h it (lo+(i:Nat)*(-1)) ((n:Int) - (i:Nat)) (-1)) where
 mem:=by simp
 obj:=λi h st b hb=>by
  have e:b=it:=by simpa using hb
  subst e
  exact⟨_,st,λv z=>by
   have z':Data.fields _=Data.cell v:=z
   cases z'⟩
 keep:=λi h h' st k=>k it (by simp) _ st
 item:=by
  intro X hP hw hK hc i pins s σ H E I hf st hg
  subst hP hw hK
  obtain⟨f0,f1,f2,f3,f4,f5⟩:=hf it (by simp)
  have W:=Walks.range (prog:=X.prog) (w:=X.w) (I.ok.hd hc) it lo (-1) n
  refine W.item i s _ _ hg st λv h' tk hv st' kk=>?_
  obtain⟨t,rfl⟩:=hv
  have I1:Inv X pins σ H {s with heap:=h',toks:=tk}:=I.turned (λb o hb e=>kk b o (by simpa using hb) e) f0 f1 f3 f4 f5
  refine⟨_,rfl,Qgk (s:={s with heap:=h',toks:=tk}) (n:="range_iterator") st' rfl rfl (by decide) ⟨.int (lo-i),H,I1,⟨t,?_⟩,⟨rfl,rfl⟩,st',λb hb=>(hf b hb).1⟩⟩
  rw[show lo+(i:Int) * -1=lo-i by omega]
 done:=by
  intro X hP hw hK hc i pins s σ H E I hf st hg
  subst hP hw hK
  obtain⟨f0,f1,f2,f3,f4,f5⟩:=hf it (by simp)
  exact wpAny_pyNext_range_end (I.ok.hd hc) st (by have:n<=i:=hg;omega) λh' eb=>⟨rfl,I.turned (t':=s.toks) (λb o hb e=>eb b o hb e) f0 f1 f3 f4 f5⟩
 self:=λ_ _ _ _ _ st h=>wpAny_pyIter_rangeiter st h
theorem Qec(a b:Int):Builtin.Range.rangeSize a b (-1)=if b<a then a-b else 0:=by
 unfold Builtin.Range.rangeSize
 simp only[show ¬((-1:Int) > 0) by decide,Rm,Int.neg_neg,Int.ediv_one,gt_iff_lt]
 split <;> omega
theorem QgB{a b:Int}(ha:-(2^62)<=a)(ha':a<2^62)(hb:-(2^62)<=b)(hb':b<2^62):Builtin.Range.small a b (-1)=true:=by
 unfold Builtin.Range.small
 rw[Qec]
 simp only[Builtin.Range.rangeFitsLong,UD,Bool.or_eq_true,UO,Td]
 split <;> simp <;> omega
section
variable{X:Cx}{tg:Expr}
theorem Qlu{a b c:Expr}{ta:TA}{p pos:Pos}(hg:Gl X "range")(hm:X.mg "range" = none)(ha:PA X [a,b,c] ta)(hs:starEach [a,b,c] X.env=(false,eval a X.env)::starEach [b,c] X.env:=by rfl)(hs2:(backTo pos (starEach [b,c] X.env)).any (·.1)=false:=by rfl):
  PI X tg (.Call (.Name "range" p) [a,b,c] [] pos) (λσ H R=>ta σ H λvs H1=>∃i j:Int,vs=[.int i,.int j,.int (-1)]/\(-(2^62)<=i/\i<2^62 /\ -(2^62)<=j/\j<2^62)/\R (Itd' i (i-j).toNat) H1):=by
 intro pins s σ H R I h
 refine Call_ (Jw I hg hm boot_range (UG (thn (ha pos pins s σ H _ I h) λus s1 ⟨vs,H1,I1,r1,q1⟩=>?_) hs hs2))
 obtain⟨i,j,e,⟨q1,q2,q3,q4⟩,q⟩:=q1
 subst e
 cases r1 with
 |cons r rr =>
  cases rr with
  |cons r' rr =>
   cases rr with
   |cons r'' rr =>
    cases rr
    obtain⟨t,rfl⟩:=r
    obtain⟨t',rfl⟩:=r'
    obtain⟨t'',rfl⟩:=r''
    refine call_range_3 (by decide) ?_ (.inl (Wh (by decide)))
    have I2:Inv X pins σ H1 {s1 with heap:=s1.heap.push {cls:=.type "range",data:=.fields #[.int i t,.int j t',.int (-1) t'']},toks:=s1.toks}:=I1.kept λb o e=>Ub _ e
    refine wpAny_pyIter_range (IsRange.new ..) (QgB q1 q2 q3 q4) ?_
    refine⟨(s1.heap.push {cls:=.type "range",data:=.fields #[.int i t,.int j t',.int (-1) t'']}).objs.size,[(s1.heap.push {cls:=.type "range",data:=.fields #[.int i t,.int j t',.int (-1) t'']}).objs.size],_,_,H1,rfl,
     I2.kept (t':=s1.toks) λb o e=>Ub _ e,Qia _ i (i-j).toNat,?_,λb hb=>?_,q⟩
    ·have e1:i+((0:Nat):Int) * -1=i:=by simp
     have e2:(((i-j).toNat:Nat):Int) - ((0:Nat):Int)=Builtin.Range.rangeSize i j (-1):=by rw[Qec];split <;> omega
     show IsRangeIter _ _ (i+((0:Nat):Int) * -1) ((((i-j).toNat:Nat):Int) - ((0:Nat):Int)) (-1)
     rw[e1,e2]
     exact Ul _ rfl
    ·have e:b=(s1.heap.push {cls:=.type "range",data:=.fields #[.int i t,.int j t',.int (-1) t'']}).objs.size:=by simpa using hb
     subst e
     exact I2.fpOk (Ug _) (I2.hok.fresh (Ug _))
end
section
variable{X:Cx}{ca:Nat->Addr}{tg e e2:Expr}{me me2:ME}{p p1 p2 pos:Pos}{jj:Nat}
theorem Qjw(hm:X.mg "range" = none)(he:PE3 ca X e me)(he2:PE3 ca X e2 me2)(hg:Gl X "range":=by rfl)(hs2:(backTo pos (starEach [e2,.UnaryOp .USub (.Constant (.int 1) jj p1) p2] X.env)).any (·.1)=false:=by rfl)(h1:starEach [e,e2,.UnaryOp .USub (.Constant (.int 1) jj p1) p2] X.env=(false,eval e X.env)::starEach [e2,.UnaryOp .USub (.Constant (.int 1) jj p1) p2] X.env:=by rfl)(h2:starEach [e2,.UnaryOp .USub (.Constant (.int 1) jj p1) p2] X.env=(false,eval e2 X.env)::starEach [.UnaryOp .USub (.Constant (.int 1) jj p1) p2] X.env:=by rfl)(h3:starEach [.UnaryOp .USub (.Constant (.int 1) jj p1) p2] X.env=[(false,eval (.UnaryOp .USub (.Constant (.int 1) jj p1) p2) X.env)]:=by rfl):
  PI3 ca X tg (.Call (.Name "range" p) [e,e2,.UnaryOp .USub (.Constant (.int 1) jj p1) p2] [] pos) (JG me me2) :=
 λpn Φ=>JB (Qlu (X:=xat X ca pn Φ) hg hm (ZR he (ZR he2 (ZR (Qgu Qh) Qp h3) h2) h1 pn Φ) h1 hs2) λσ H R hQ=>by
  obtain⟨σ3,g,μ,Rp,p⟩:=hQ
  refine⟨σ3,g,μ,Rp,?_⟩
  unfold JG at p
  unfold Qb mNil
  cases hm:me σ3 g with
  |raise _ _=>rw[hm]at p;exact p
  |stuck=>rw[hm]at p;exact p.elim
  |ok d g1 =>
   rw[hm,Res.bind_ok]at p
   rw[Res.bind_ok]
   cases hm2:me2 σ3 g1 with
   |raise _ _=>rw[hm2]at p;exact p
   |stuck=>rw[hm2]at p;exact p.elim
   |ok d2 g2 =>
    rw[hm2,Res.bind_ok]at p
    rw[Res.bind_ok,show mOp1 pNeg (mLit (.int 1)) σ3 g2=.ok (.int (-1)) g2 from rfl,Res.bind_ok,Res.bind_ok,Res.bind_ok,Res.bind_ok]
    intro vs H1 μ1 e1 r1 q1
    cases q1 with
    |cons h1 h2 =>
     cases h2 with
     |cons h2 h3 =>
      cases h3 with
      |cons h3 h4 =>
       cases h4
       cases h1 with
       |int i =>
        cases h2 with
        |int j =>
         cases h3
         dsimp only at p
         by_cases z:inR i/\inR j
         ·rw[Uc z]at p
          refine⟨i,j,rfl,⟨z.1.1,z.1.2,z.2.1,z.2.2⟩,p _ H1 μ1 e1 r1 ?_⟩
          intro k H2 μ2 g3 e3 r3
          dsimp only
          by_cases hk:(k:Int)<i-j
          ·rw[Uc hk]
           exact⟨show k<(i-j).toNat by omega,λx H' y=>by obtain⟨rfl,rfl⟩:=y;exact⟨.refl,r3,.int _⟩⟩
          ·rw[Uh hk]
           exact show(i-j).toNat<=k by omega
         ·rw[Uh z]at p;exact p.elim
        |_=>exact p.elim
       |_=>cases h2 <;> exact p.elim
end
section
variable{X:Cx}{ca:Nat->Addr}{a b:Expr}{ma mb:ME}{pos:Pos}
theorem Qnh:OpR X (compareOp .Is) (λx y H Q=>∃a b,x=.bl a/\y=.bl b/\Q (.bl (a == b)) H):=by
 intro pins s σ H x y v u Q I rx ry h
 obtain⟨a,b,rfl,rfl,q⟩:=h
 cases rx;cases ry
 exact is_bool ⟨.bl (a == b),H,I,rfl,q⟩
theorem Qjx{K:Frag}:Y4 K ca (λx y H Q=>∃a b,x=.bl a/\y=.bl b/\Q (.bl (a == b)) H) pIsB:=by
 intro Φ σ H μ g x y dx dy Q r qx qy p
 unfold pIsB at p
 cases qx with
 |bl a=>cases qy with
  |bl b=>exact⟨a,b,rfl,rfl,p _ H μ .refl r (.bl _)⟩
  |_=>exact p.elim
 |_=>cases qy <;> exact p.elim
theorem Qn8(ha:PE3 ca X a ma)(hb:PE3 ca X b mb):PE3 ca X (.Compare a [.Is] [b] pos) (mOp2 pIsB ma mb):=Qd0 (λ_ _=>Qnh) Qjx ha hb (YA b)
end
section
variable{X:Cx}{pins:List (Addr×Obj)}{σ:L2.St}{H:Hp}{s:Shared}{μ:List Addr}
theorem Qlv{a:Addr}{vs:List V}(I:Inv X pins σ H s)(h:SqT X.K H a vs):∃its,Vals vs its/\NK.Tp s.heap a its:=by
 obtain⟨its,rv,⟨o,ho,hc,n,hd⟩,_⟩:=I.tuple h
 exact⟨its,rv,o,_,n,ho,hc,hd,by simp⟩
theorem Qib:∀{ds:List D}{vs:List V}{its:List Value}{ks:List Int},Dens X.K μ H vs ds->Vals vs its->rowI ds=some ks->NK.Al ((NK.intV X.prog X.w).is s.heap) ks its
 |[],_,_,_,.nil,.nil,h=>by cases h;exact .nil
 |.int i::r,_,_,ks,.cons q qs,.cons rv rvs,h=>by
  have h:(rowI r).map (i :: ·)=some ks:=h
  obtain⟨js,h1,rfl⟩:=Tx.mp h
  cases q
  obtain⟨t,rfl⟩:=rv
  exact .cons (show Value.isInt i (.int i t)=true by simp[Value.isInt]) (Qib qs rvs h1)
theorem Qlw{v:V}{u:Value}{ds:List D}{ks:List Int}(I:Inv X pins σ H s)(q:Den X.K μ H v (.tup ds))(rv:RelV v u)(h:rowI ds=some ks):(NK.lstV (NK.intV X.prog X.w)).is s.heap ks u:=by
 cases q with
 |tup ht hs =>
  cases rv
  obtain⟨its,r1,r2⟩:=Qlv I ht
  exact⟨_,its,rfl,r2,Qib hs r1 h⟩
theorem QfT(I:Inv X pins σ H s):∀{ds:List D}{vs:List V}{its:List Value}{ks:List (List Int)},Dens X.K μ H vs ds->Vals vs its->QdY ds=some ks->NK.Al ((NK.lstV (NK.intV X.prog X.w)).is s.heap) ks its
 |[],_,_,_,.nil,.nil,h=>by cases h;exact .nil
 |.tup es::r,_,_,ks,.cons q qs,.cons rv rvs,h=>by
  unfold QdY at h
  cases h1:rowI es with
  |none=>rw[h1]at h;cases h
  |some x =>
   cases h2:QdY r with
   |none=>rw[h1,h2]at h;cases h
   |some y =>
    rw[h1,h2]at h
    cases h
    exact .cons (Qlw I q rv h1) (QfT I qs rvs h2)
theorem QfU{v:V}{u:Value}{d:D}{k:NK.SK}(I:Inv X pins σ H s)(q:Den X.K μ H v d)(rv:RelV v u)(h:skOf d=some k):(NK.shV X.prog X.w).is s.heap k u:=by
 unfold skOf at h
 split at h
 ·rename_i a b ms
  obtain⟨y,h1,rfl⟩:=Tx.mp h
  cases q with
  |tup ht hs =>
   cases rv
   obtain⟨its,r1,r2⟩:=Qlv I ht
   cases hs with
   |cons q1 hs=>cases hs with
    |cons q2 hs=>cases hs with
     |cons q3 hs =>
      cases hs
      cases q1
      cases q2
      cases r1 with
      |cons v1 r1=>cases r1 with
       |cons v2 r1=>cases r1 with
        |cons v3 r1 =>
         cases r1
         obtain⟨t1,rfl⟩:=v1
         obtain⟨t2,rfl⟩:=v2
         refine⟨_,_,_,_,rfl,r2,(show Value.isInt a (.int a t1)=true by simp[Value.isInt]),(show Value.isInt b (.int b t2)=true by simp[Value.isInt]),?_⟩
         cases q3 with
         |tup ht3 hs3 =>
          cases v3
          obtain⟨its3,r3,r4⟩:=Qlv I ht3
          exact⟨_,its3,rfl,r4,QfT I hs3 r3 h1⟩
 ·cases h
theorem NRel.mem{K:Frag}{xs:List (NK.SK×Addr×Value)}{ks:List (NK.SK×D)}(h:NRel K μ H xs ks):∀x∈xs,∃d,skOf d=some x.1/\Den K μ H (.ref x.2.1) d:=by
 unfold NRel at h
 induction h with
 |nil=>intro x hx;cases hx
 |cons a _ ih=>intro x hx;rcases Uu.mp hx with rfl|z;exact a.2.1;exact ih x z
theorem NRel.get{K:Frag}{xs:List (NK.SK×Addr×Value)}{ks:List (NK.SK×D)}(h:NRel K μ H xs ks)(k:NK.SK):(atKey xs k=none/\nGet ks k=none)\/∃p d v,atKey xs k=some p/\nGet ks k=some d/\RelV v p.2/\Den K μ H v d:=by
 unfold NRel at h
 induction h with
 |nil=>exact .inl ⟨rfl,rfl⟩
 |@cons x q l1 l2 a _ ih =>
  unfold atKey nGet at ih ⊢
  rw[UA,UA]
  obtain⟨e,_,v,r1,r2⟩:=a
  by_cases hk:x.1=k
  ·rw[Us hk,Us (e ▸ hk)]
   exact .inr ⟨_,_,v,rfl,rfl,r1,r2⟩
  ·rw[Uq hk,Uq (λz=>hk (e.trans z))]
   exact ih
theorem Qe1{t:Addr}{xs:List (NK.SK×Addr×Value)}{ks:List (NK.SK×D)}(I:Inv X pins σ H s)(e:H t=some (ND t xs))(r:NRel X.K μ H xs ks)(hn:(xs.map (·.1)).Nodup):s.heap.DictOfH (NK.shK X.prog X.w) t xs:=by
 obtain⟨⟨o,es,ep,ho,hc,hd,he⟩,_⟩:=(show ObjOk X.prog X.w H s.heap t (.ext (NK.DObj t xs)) from I.hok t _ e)
 refine⟨o,es,ep,ho,hc,hd,he,λx hx=>?_,hn⟩
 obtain⟨d,h1,h2⟩:=r.mem x hx
 exact QfU I h2 rfl h1
theorem Qe2{A:Around}(hu:A.units+16<cLine):(NK.shK X.prog X.w).room A.in1:=show A.units+1+3<cLine by omega
def rN(K:Frag)(ca:Nat->Addr)(x y:V)(H:Hp)(Q:List Addr->Addr->List (NK.SK×D)->NK.SK->Prop):Prop:=∃(g:G)(μ:List Addr)(dx:D)(n:Nat)(t:Addr)(ks:List (NK.SK×D))(k:NK.SK),GRep K ca μ H g/\Den K μ H x dx/\skOf dx=some k/\y=.ref t/\μ[n]?=some t/\g[n]?=some (.dcn ks)/\Q μ t ks k
theorem Qe3{K:Frag}{x:V}{d:D}{k:NK.SK}(q:Den K μ H x d)(h:skOf d=some k):∃a,x=.ref a:=by
 unfold skOf at h
 split at h
 ·cases q;exact⟨_,rfl⟩
 ·cases h
end
section
variable{X:Cx}{ca:Nat->Addr}
theorem Qni(hu:X.A.units+16<cLine):OpR X (compareOp .In) (λx y H Q=>rN X.K ca x y H λ_ _ ks k=>Q (.bl (nGet ks k).isSome) H):=by
 intro pins s σ H x y v u Q I rx ry h
 obtain⟨g,μ,dx,n,t,ks,k,r,q,hk,rfl,hn,hg,hQ⟩:=h
 obtain⟨a,rfl⟩:=Qe3 q hk
 cases rx;cases ry
 obtain⟨t',ht',xs,hH,nr,nd,hs⟩:=r.addr hg
 rw[hn]at ht';cases ht'
 refine wpAny_in_heap (knd:=NK.shK X.prog X.w) (Qe2 hu) (QfU I q rfl hk) hs (Qe1 I hH nr nd) ?_
 have e:(atKey xs k).isSome=(nGet ks k).isSome:=by rcases nr.get k with⟨a,b⟩|⟨p,d,v,a,b,_⟩ <;> rw[a,b] <;> rfl
 rw[e]
 exact⟨.bl _,H,I.tok _,rfl,hQ⟩
theorem Qn9(hu:X.A.units+16<cLine):IxR X (λx y H Q=>rN X.K ca y x H λμ _ ks k=>∃d,nGet ks k=some d/\∀v,Den X.K μ H v d->Q v H):=by
 intro value slice pins s σ H x y v u Q I rx ry h hs'
 obtain⟨g,μ,dx,n,t,ks,k,r,q,hk,rfl,hn,hg,d,hd,hQ⟩:=h
 obtain⟨a,rfl⟩:=Qe3 q hk
 cases rx;cases ry
 obtain⟨t',ht',xs,hH,nr,nd,hs⟩:=r.addr hg
 rw[hn]at ht';cases ht'
 rcases nr.get k with⟨a1,b1⟩|⟨p,d',v,a1,b1,rv,dv⟩
 ·rw[b1]at hd;cases hd
 ·rw[b1]at hd;cases hd
  have dd:=Qe1 I hH nr nd
  exact tail_any dd.typeIs RP.lookup (wpAny_getItem_heap (knd:=NK.shK X.prog X.w) (Qe2 hu) (QfU I q rfl hk) dd a1 ⟨v,H,I.tok _,rv,hQ v dv⟩) hs'
theorem Qnj{P:Program}{w:World}{H':Hp}{h:Heap}{a:Addr}{xs:List (NK.SK×Addr×Value)}(x:NK.DObj a xs h):ObjOk P w H' h a (ND a xs):=by
 refine show NK.DObj a xs h/\_ from ⟨x,let ⟨o,_,_,ho,_⟩:=x;⟨o,ho⟩,λh1 h2 y k=>?_⟩
 obtain⟨o,es,ep,ho,r⟩:=y
 exact⟨o,es,ep,k o ho,r⟩
theorem Qoa(hu:X.A.units+16<cLine):PSet X (λo i v H Q=>rN X.K ca i o H λμ t ks k=>∃dv,Den X.K μ H v dv/\nGet ks k=none/\ks.length<SZ/\∀xs',NRel X.K μ (upd H t (ND t xs')) xs' (ks++[(k,dv)])->(xs'.map (·.1)).Nodup->(t == sysModules)=false->Q (upd H t (ND t xs'))):=by
 intro pins s σ H o i v ov iv u Q I ro ri rv h
 obtain⟨g,μ,dx,n,t,ks,k,r,q,hk,rfl,hn,hg,dv,hv,hno,hz,hQ⟩:=h
 obtain⟨a,rfl⟩:=Qe3 q hk
 cases ro;cases ri
 obtain⟨t',ht',xs,hH,nr,nd,hs⟩:=r.addr hg
 rw[hn]at ht';cases ht'
 rcases nr.get k with⟨a1,b1⟩|⟨p,d',v,a1,b1,_,_⟩
 ·have dd:=Qe1 I hH nr nd
  have hl:xs.length=ks.length:=Paired.length nr
  refine wpAny_setItem_heap (hsz:=by rw[hl];exact U3 (Uw hz JA)) (knd:=NK.shK X.prog X.w) (Qe2 hu) (QfU I q rfl hk) dd λh' dd' hs'=>?_
  rw[storedH_new a1]at dd'
  obtain⟨o,es,ep,ho,hc,hd,he,_,nd'⟩:=dd'
  have ex:Ext X.K μ H μ (upd H t (ND t (xs++[(k,a,u)]))):=Y3 hH (λ_ z=>by unfold ND at z;cases z) (λ_ _ z=>by unfold ND at z;cases z)
  refine⟨_,QeY I (by rw[hH];exact True.intro) hs' ⟨o,ho⟩ (Qnj ⟨o,es,ep,ho,hc,hd,he⟩),hQ _ ?_ nd' hs⟩
  exact Paired.snoc (nr.mono ex) ⟨rfl,⟨dx,hk,q.mono ex⟩,v,rv,hv.mono ex⟩
 ·rw[b1]at hno;cases hno
theorem Qjy{pos:Pos}:PE X (.Dict [] [] pos) (λ_ H Q=>∀p,H p=none->(p == sysModules)=false->Q (.ref p) (upd H p (ND p []))):=λpins s σ H Q I h=>by
 obtain⟨_,hd,vs,rel,o,es,ep,ho,hc,hdat,_,hp,_⟩:=(show ObjOk X.prog X.w H _ _ (.dK []) from QfS s.heap I.big)
 cases rel
 have he:es.toList=[]:=List.length_eq_zero_iff.mp hp.length
 exact wpAny_Dict_empty ⟨.ref s.heap.objs.size,_,I.laid (a:=s.heap.objs.size) (o:=ND s.heap.objs.size []) (t':=s.toks) (λ_ _ q=>Ub _ q) (Ug _) (Qnj ⟨o,es,ep,ho,hc,hdat,he⟩),rfl,h _ (I.hok.fresh (Ug _)) hd⟩
end
section
variable{X:Cx}{ca:Nat->Addr}{a b o e:Expr}{ma mb mo me:ME}{pos:Pos}{k:Nat}
theorem Qlx:PE3 ca X (.Dict [] [] pos) QkF :=
 λpn Φ=>Zf (Qjy (X:=xat X ca pn Φ)) λσ H Q ⟨σ3,g,μ,R,q⟩=>λt ht hs=>q _ _ (μ++[t]) (QS ht) (R.g.push ht ⟨[],Qq,.nil,.nil,hs⟩) (.ref (by rw[<-R.g.len];simp))
theorem Qjz{K:Frag}:Y4 K ca (λx y H Q=>rN K ca x y H λ_ _ ks k=>Q (.bl (nGet ks k).isSome) H) pInN:=by
 intro Φ σ H μ g x y dx dy Q r qx qy p
 unfold pInN at p
 cases qy with
 |@ref n t hn =>
  dsimp only at p
  cases hg:g[n]? with
  |none=>rw[hg]at p;exact p.elim
  |some ob =>
   rw[hg]at p
   cases ob with
   |dcn ks =>
    cases hk:skOf dx with
    |none=>rw[hk]at p;exact p.elim
    |some k=>rw[hk]at p;exact⟨g,μ,dx,n,t,ks,k,r,qx,hk,rfl,hn,hg,p _ H μ .refl r (.bl _)⟩
   |_=>exact p.elim
 |_=>exact p.elim
theorem QjA{K:Frag}:Y4 K ca (λx y H Q=>rN K ca y x H λμ _ ks k=>∃d,nGet ks k=some d/\∀v,Den K μ H v d->Q v H) pIxN:=by
 intro Φ σ H μ g x y dx dy Q r qx qy p
 unfold pIxN at p
 cases qx with
 |@ref n t hn =>
  dsimp only at p
  cases hg:g[n]? with
  |none=>rw[hg]at p;exact p.elim
  |some ob =>
   rw[hg]at p
   cases ob with
   |dcn ks =>
    cases hk:skOf dy with
    |none=>rw[hk]at p;exact p.elim
    |some k =>
     rw[hk]at p
     dsimp only at p
     cases hd:nGet ks k with
     |none=>rw[hd]at p;exact p.elim
     |some d=>rw[hd]at p;exact⟨g,μ,dy,n,t,ks,k,r,qy,hk,rfl,hn,hg,d,hd,λv hv=>p v H μ .refl r hv⟩
   |_=>exact p.elim
 |_=>exact p.elim
theorem Qnk(hr:Room k X.A)(ha:PE3 ca X a ma)(hb:PE3 ca X b mb)(hm:behindInMarks .In b=false:=by rfl):PT3 ca X (.Compare a [.In] [b] pos) (Qf (mOp2 pInN ma mb)):=Jq (λpn Φ=>Qni (X:=xat X ca pn Φ) (by have:=hr.units;show X.A.units+16<cLine;omega)) Qjz ha hb hm
theorem Qob(hr:Room k X.A)(ha:PE3 ca X a ma)(hb:PE3 ca X b mb)(hs:QbU b:=by exact λ_ _=>rfl):PE3 ca X (.Subscript a b pos) (mOp2 pIxN ma mb):=r_ix (λpn Φ=>Qn9 (X:=xat X ca pn Φ) (by have:=hr.units;show X.A.units+16<cLine;omega)) QjA ha hb hs
theorem Qly{i:Expr}{mi:ME}{pos':Pos}(hr:Room k X.A)(ho:PE3 ca X o mo)(hi:PE3 ca X i mi)(he:PE3 ca X e me)(hs:swapsWithSole [.Subscript o i pos'] e pos.line X.env=pure false:=by rfl)(hw:swappedStores [.Subscript o i pos'] e X.env=pure none:=by rfl)(h1:(assignEach [.Subscript o i pos'] X.env).map (·.2)=[assign (.Subscript o i pos') X.env]:=by rfl)(ha:∀v,assign (.Subscript o i pos') X.env v=(do
   let ov <-holding [v] (eval o X.env)
   let iv <-holding [v,ov] (eval i X.env)
   standAt pos'
   holding [v,ov,iv] (setItem ov iv v)
   release [v,ov,iv] []):=by intro _;rfl):PS3 ca X (.Assign [.Subscript o i pos'] e pos) (Qeb mo mi me) :=
 λpn Φ=>Z9 (Qfv (X:=xat X ca pn Φ) (he pn Φ) (Qg6 (X:=xat X ca pn Φ) (ho pn Φ) (hi pn Φ) (Qoa (ca:=ca) (by have:=hr.units;show X.A.units+16<cLine;omega)) ha) hs hw h1) λE σ H ⟨σ3,g,μ,R,p⟩=>⟨σ3,g,μ,R,by
  unfold Qeb at p
  cases hm:me σ3 g with
  |ok y g1 =>
   rw[hm]at p
   dsimp only at p
   intro vy H1 μ1 e1 r1 q1
   refine⟨σ3,g1,μ1,R.go e1 r1,?_⟩
   cases hm2:mo σ3 g1 with
   |ok d g2 =>
    rw[hm2]at p
    intro vx H2 μ2 e2 r2 q2
    cases q2 with
    |@ref n a hn =>
     dsimp only at p
     refine⟨σ3,g2,μ2,R.go (e1.trans e2) r2,?_⟩
     cases hm3:mi σ3 g2 with
     |ok di g3 =>
      rw[hm3]at p
      intro vi H3 μ3 e3 r3 q3
      dsimp only at p
      cases hg:g3[n]? with
      |none=>rw[hg]at p;exact p.elim
      |some ob =>
       rw[hg]at p
       cases ob with
       |dcn ks =>
        cases hk:skOf di with
        |none=>rw[hk]at p;exact p.elim
        |some k =>
         rw[hk]at p
         dsimp only at p
         by_cases z:ks.length<SZ/\nGet ks k=none
         ·rw[Uc z]at p
          refine⟨g3,μ3,di,n,a,ks,k,r3,q3,hk,rfl,e3.at hn,hg,y,(q1.mono e2).mono e3,z.2,z.1,λxs' nr nd hsm=>?_⟩
          obtain⟨a',ha',xs,hH,_⟩:=r3.addr hg
          rw[e3.at hn]at ha';cases ha'
          have ex:Ext X.K μ3 H3 μ3 (upd H3 a (ND a xs')):=Y3 hH (λ_ z=>by unfold ND at z;cases z) (λ_ _ z=>by unfold ND at z;cases z)
          refine p σ _ μ3 (((e1.trans e2).trans e3).trans ex) ((R.go ((e1.trans e2).trans e3) r3).go ex ?_)
          exact r3.set (e3.at hn) hH (λ_ z=>by unfold ND at z;cases z) (λ_ _ z=>by unfold ND at z;cases z) ⟨xs',Qq,nr,nd,hsm⟩
         ·rw[Uh z]at p;exact p.elim
       |_=>exact p.elim
     |raise _ _=>rw[hm3]at p;exact(RaP.stmt R p).go (e1.trans e2)
     |stuck=>rw[hm3]at p;exact p
    |_=>exact p.elim
   |raise _ _=>rw[hm2]at p;exact(RaP.stmt R p).go e1
   |stuck=>rw[hm2]at p;exact p
  |raise _ _=>rw[hm]at p;exact RaP.stmt R p
  |stuck=>rw[hm]at p;exact p⟩
end
end L3
namespace L3
open PySem
noncomputable def Qau(e:ME):MI:=λσ g=>(e σ g).bind λx g1=>match x with
 |.ref n=>(match g1[n]? with
  |some (.dct ks)=>(match Yg ks with
   |some is=>.ok ⟨λ_ i=>some (is.map D.int)[i]?,is.length⟩ (g1.set n (.dfz ks))
   |none=>.stuck)
  |_=>.stuck)
 |_=>.stuck
end L3
namespace L3
open PySem PySem.Spec PyProof.Rows L2
section
variable{X:Cx}
noncomputable def Itd(a:Addr)(o:Obj)(kvs:List (Key×V))(is:List Int):It :=
 ⟨λi H=>H a=some (.frz o (.dK kvs))/\i<is.length,λi H x H'=>H'=H/\∃k,is[i]?=some k/\x=.int k,λi H=>H a=some (.frz o (.dK kvs))/\is.length<=i⟩
theorem QkG{pins:List (Addr×Obj)}{σ:L2.St}{H:Hp}{s:Shared}{a:Addr}{o:Obj}{es:Array DictEntry}{ep:Nat}{kvs:List (Key×V)}{is:List Int}(I:Inv X pins σ H s)(e:H a=some (.frz o (.dK kvs)))(hoe:o.data=.dict es ep)(hk:kvs.map (·.1)=is.map Sum.inl):∃vs,s.heap.DictAt (Z6 X.prog X.w) a vs ep/\vs.map (·.1)=is.map Sum.inl/\vs.length=is.length:=by
 obtain⟨ho,z,hd,vs,rel,dd⟩:=(show ObjOk X.prog X.w H s.heap a (.frz o (.dK kvs)) from I.hok a _ e)
 obtain⟨o',es',ep',ho',r1,r2,r3⟩:=dd
 rw[ho]at ho';cases ho'
 rw[hoe]at r2;cases r2
 have hl:vs.map (·.1)=is.map Sum.inl:=by rw[<-Qe0 rel,hk]
 exact⟨vs,⟨o,es,ho,r1,hoe,r3⟩,hl,by have:=T2 List.length hl;simpa using this⟩
theorem Qic{P:Program}{w:World}{K:Frag}{tg:Expr}(a it:Addr){o:Obj}{es:Array DictEntry}{ep:Nat}{kvs:List (Key×V)}{is:List Int}(hoe:o.data=.dict es ep)(hk:kvs.map (·.1)=is.map Sum.inl):Turn P w K tg (Itd a o kvs is) [it] it (λi h=>h.IsKeyIter it a i is.length ep) where
 mem:=by simp
 obj:=λi h st b hb=>by
  have e:b=it:=by simpa using hb
  subst e
  obtain⟨o,e,c,d⟩:=st
  exact⟨o,e,λv z=>by rw[d]at z;cases z⟩
 keep:=λi h h' st k=>by
  obtain⟨o,e,c⟩:=st
  exact⟨o,k it (by simp) o e,c⟩
 item:=by
  intro X hP hw hK hc i pins s σ H E I hf st hg
  subst hP hw hK
  obtain⟨e,hi⟩:=hg
  obtain⟨vs,da,hks,hl⟩:=QkG I e hoe hk
  obtain⟨f0,f1,f2,f3,f4,f5⟩:=hf it (by simp)
  have hx:vs[i]?=some (vs[i]'(by omega)):=by simp[hl,hi]
  rw[<-hl]at st
  refine wpAny_pyNext_dict_item (k:=(vs[i]'(by omega)).1) (v:=(vs[i]'(by omega)).2) st da hx λkey h' hkey st' sb=>?_
  have I1:Inv X pins σ H {s with heap:=h'}:=I.turned (t':=s.toks) (λb o hb e=>(sb.2 b hb).trans e) f0 f1 f3 f4 f5
  have h1:(vs.map (·.1))[i]?=some (vs[i]'(by omega)).1:=by rw[UK,hx];rfl
  rw[hks,UK,To hi]at h1
  have h1:Sum.inl is[i]=(vs[i]'(by omega)).1:=Option.some.inj h1
  rw[<-h1]at hkey
  rw[hl]at st'
  obtain⟨ob,e',c,d⟩:=id st'
  exact⟨key,rfl,Qgk (s:={s with heap:=h'}) e' c d (by decide) ⟨.int is[i],H,I1,Qh5 hkey,⟨rfl,is[i],by simp[hi],rfl⟩,st',λb hb=>(hf b hb).1⟩⟩
 done:=by
  intro X hP hw hK hc i pins s σ H E I hf st hg
  subst hP hw hK
  obtain⟨e,hi⟩:=hg
  obtain⟨vs,da,hks,hl⟩:=QkG I e hoe hk
  obtain⟨f0,f1,f2,f3,f4,f5⟩:=hf it (by simp)
  rw[<-hl]at st
  exact wpAny_pyNext_dict_end (I.ok.hd hc) st da (by simp;omega) λh' eb=>⟨rfl,I.turned (t':=s.toks) (λb o hb e=>eb b o hb e) f0 f1 f3 f4 f5⟩
 self:=λ_ _ _ _ _ st h=>wpAny_pyIter_keyiter st h
theorem Qnl{pins:List (Addr×Obj)}{σ:L2.St}{H:Hp}{s:Shared}{a:Addr}{o:Obj}{kvs:List (Key×V)}(I:Inv X pins σ H s)(e:H a=some (.dK kvs))(ho:s.heap.get? a=some o):Inv X pins σ (upd H a (.frz o (.dK kvs))) s:=by
 obtain⟨z,hd,vs,rel,dd⟩:=QeX I.hok e
 exact I.write (x:=a) (e:=a) (h':=s.heap) (t':=s.toks) (o:=.frz o (.dK kvs)) (by rw[e];trivial) (.inl rfl) (λ_ _ _ h=>h) ⟨o,ho⟩ ⟨ho,z,hd,vs,rel,dd⟩
theorem Qlz{tg l:Expr}{tl:TE}(hl:PE X l tl):PI X tg l (λσ H R=>tl σ H λx H1=>∃a kvs is,x=.ref a/\H1 a=some (.dK kvs)/\kvs.map (·.1)=is.map Sum.inl/\∀o,R (Itd a o kvs is) (upd H1 a (.frz o (.dK kvs)))):=by
 intro pins s σ H R I h
 refine thn (hl pins s σ H _ I h) λv s1 ⟨x,H1,I1,r1,q1⟩=>?_
 obtain⟨a,kvs,is,rfl,e,hk,q⟩:=q1
 cases r1
 obtain⟨z,hd,vs,rel,dd⟩:=QeX I1.hok e
 obtain⟨o,es,ep,ho,r1,r2,r3⟩:=id dd
 have I2:=Qnl I1 e ho
 have hlen:vs.length=is.length:=by
  have:=T2 List.length ((Qe0 rel).symm.trans hk)
  simpa using this
 refine wpAny_pyIter_dict hd (⟨o,es,ho,r1,r2,r3⟩:s1.heap.DictAt (Z6 X.prog X.w) a vs ep) ?_
 refine⟨s1.heap.objs.size,[s1.heap.objs.size],_,_,_,rfl,I2.kept (t':=s1.toks) λb o e=>Ub _ e,Qic a _ r2 hk,⟨_,Ul _ rfl,rfl,by rw[hlen];rfl⟩,λb hb=>?_,q o⟩
 have e:b=s1.heap.objs.size:=by simpa using hb
 subst e
 exact I2.fpOk (Ug _) (I2.hok.fresh (Ug _))
end
section
variable{X:Cx}{ca:Nat->Addr}{a b e tg:Expr}{ma mb me:ME}{p pos:Pos}
theorem QjB{K:Frag}{μ:List Addr}{H:Hp}{a:Addr}{o:Obj}{kvs:List (Key×V)}{is:List Int}(h:H a=some (.frz o (.dK kvs))):Sim K ca μ H ⟨λ_ i=>some (is.map D.int)[i]?,is.length⟩ (Itd a o kvs is):=by
 intro i H1 μ1 g1 e r
 dsimp only
 have h1:=e.frz _ _ _ h
 by_cases hi:i<is.length
 ·rw[UK,To hi]
  exact⟨⟨h1,hi⟩,λx H' y=>by
   obtain⟨rfl,k,y1,rfl⟩:=y
   rw[To hi]at y1;cases y1
   exact⟨.refl,r,.int _⟩⟩
 ·rw[UK,TJ (TU hi)]
  exact⟨h1,TU hi⟩
theorem QjC(he:PE3 ca X e me):PI3 ca X tg e (Qau me) :=
 λpn Φ=>JB (Qlz (X:=xat X ca pn Φ) (he pn Φ)) λσ H R hQ=>by
  obtain⟨σ3,g,μ,Rp,p⟩:=hQ
  unfold Qau at p
  refine⟨σ3,g,μ,Rp,?_⟩
  cases hm:me σ3 g with
  |raise _ _=>rw[hm]at p;exact p
  |stuck=>rw[hm]at p;exact p.elim
  |ok d g1 =>
   rw[hm,Res.bind_ok]at p
   intro v H1 μ1 e1 r1 q1
   cases q1 with
   |@ref n a hn =>
    dsimp only at p
    cases hg:g1[n]? with
    |none=>rw[hg]at p;exact p.elim
    |some ob =>
     rw[hg]at p
     obtain⟨a',ha',orp⟩:=r1.addr hg
     rw[hn]at ha';cases ha'
     cases ob with
     |dct ks =>
      obtain⟨kv,hH,q⟩:=orp
      dsimp only at p
      cases hk:Yg ks with
      |none=>rw[hk]at p;exact p.elim
      |some is =>
       rw[hk]at p
       have ex:∀o,Ext X.K μ1 H1 μ1 (upd H1 a (.frz o (.dK kv))):=λo=>Y3 hH (λ_ z=>nomatch z) (λ_ _ z=>nomatch z)
       exact⟨a,kv,is,rfl,hH,q.keys.trans (Qb7 hk),λo=>p _ _ μ1 (e1.trans (ex o)) (r1.set hn hH (λ_ z=>nomatch z) (λ_ _ z=>nomatch z) ⟨o,kv,Qq,q.mono (ex o)⟩) (QjB Qq)⟩
     |_=>exact p.elim
   |_=>exact p.elim
end
end L3
namespace L3
open PySem
noncomputable def Qbr(i:Nat)(j:Int)(n:Nat)(cap:List Nat)(t:MG)(c:MT)(e:ME):ME:=λσ g=>match mOp2 pIx (mVar i) (mLit (.int j)) σ g with
 |.ok (.ref r) _=>(match ZO (Qau (mOp2 pIx (mVar i) (mLit (.int j)))) n cap t c e σ g with
  |.ok d g'=>(match g[r]?,g'[r]? with
   |some (.dct _),some (.dfz ks)=>.ok d (g'.set r (.dct ks))
   |_,_=>.stuck)
  |_=>.stuck)
 |_=>.stuck
end L3
namespace L3
open PySem PySem.Spec PyProof.Rows L2
theorem thaw{X:Cx}{pins:List (Addr×Obj)}{σ:L2.St}{H:Hp}{s:Shared}{t:Addr}{o:Obj}{kv:List (Key×V)}(I:Inv X pins σ H s)(e:H t=some (.frz o (.dK kv)))(hn:∀o u,X.H₀ t≠some (.frz o u)):Inv X pins σ (upd H t (.dK kv)) s:=by
 obtain⟨ho,hk⟩:=(show ObjOk X.prog X.w H s.heap t (.frz o (.dK kv)) from I.hok t _ e)
 have ne:∀{b:Addr},H b=none->b≠t:=λh=>(QM e h).symm
 have hu:∀{b:Addr},b≠t->upd H t (.dK kv) b=H b:=λh=>Qs h
 refine⟨I.ok,I.os,I.bare,⟨I.base.keep,I.base.slot,λb ob h1 h2 h3=>?_,I.base.there,λb xs h=>?_,λb ob u h=>?_,λb ps h=>?_⟩,I.loc,I.cell,?_,λx c h=>?_,λp hp=>?_,?_,I.len⟩
 ·have:=I.base.free b ob h1 h2 h3
  rw[hu (ne this)];exact this
 ·have:=I.base.tups b xs h
  rw[hu (QcX this e (λz=>by cases z))];exact this
 ·have:=I.base.frzs b ob u h
  rw[hu (λz=>by subst z;exact hn _ _ h)];exact this
 ·obtain⟨more,h2⟩:=I.base.tbls b ps h
  exact⟨more,by rw[hu (QcX h2 e (λz=>by cases z))];exact h2⟩
 ·rw[hu (ne I.free)];exact I.free
 ·rw[hu (ne (I.freeC x c h))];exact I.freeC x c h
 ·obtain⟨a1,a2,a3⟩:=I.pin p hp
  exact⟨a1,by rw[hu (ne a2)];exact a2,a3⟩
 ·intro b u q
  by_cases hb:b=t
  ·subst hb
   rw[Qq]at q;cases q
   exact hk
  ·rw[hu hb]at q
   exact(I.hok b u q).stay (λ_ _ _ z=>z) (λc z=>by rw[hu (QcX z e (λz=>by cases z))];exact z) λc xs z=>by rw[hu (QcX z e (λz=>by cases z))];exact z
section
variable{K:Frag}{ca:Nat->Addr}{μ:List Addr}{H H':Hp}
mutual
theorem Den.mv(ft:∀a xs,SqT K H a xs->SqT K H' a xs)(ff:∀a xs,SqF K H a xs->SqF K H' a xs):∀{v:V}{d:D},Den K μ H v d->Den K μ H' v d
 |_,_,.non=>.non
 |_,_,.bl b=>.bl b
 |_,_,.int i=>.int i
 |_,_,.str x=>.str x
 |_,_,.ref h=>.ref h
 |_,_,.tup h hs=>.tup (ft _ _ h) (Dens.mv ft ff hs)
 |_,_,.fl h hs=>.fl (ff _ _ h) (Dens.mv ft ff hs)
theorem Dens.mv(ft:∀a xs,SqT K H a xs->SqT K H' a xs)(ff:∀a xs,SqF K H a xs->SqF K H' a xs):∀{vs:List V}{ds:List D},Dens K μ H vs ds->Dens K μ H' vs ds
 |_,_,.nil=>.nil
 |_,_,.cons h hs=>.cons (Den.mv ft ff h) (Dens.mv ft ff hs)
end
theorem ORep.mv(ft:∀a xs,SqT K H a xs->SqT K H' a xs)(ff:∀a xs,SqF K H a xs->SqF K H' a xs){a:Addr}{o:GO}(ha:∀u,H a=some u->H' a=some u)(h:ORep K ca μ H a o):ORep K ca μ H' a o:=by
 cases o with
 |lst ds=>obtain⟨vs,h,q⟩:=h;exact⟨vs,ha _ h,q.mv ft ff⟩
 |ins c fs=>obtain⟨dx,fv,h,q⟩:=h;exact⟨dx,fv,ha _ h,Paired.imp' (λ_ _ q=>⟨q.1,q.2.mv ft ff⟩) q⟩
 |dct ks=>obtain⟨kv,h,q⟩:=h;exact⟨kv,ha _ h,Paired.imp' (λ_ _ q=>⟨q.1,q.2.mv ft ff⟩) q⟩
 |exc x=>exact ha _ h
 |dfz ks=>obtain⟨o,kv,h,q⟩:=h;exact⟨o,kv,ha _ h,Paired.imp' (λ_ _ q=>⟨q.1,q.2.mv ft ff⟩) q⟩
 |dcn ks=>obtain⟨xs,h,q,r⟩:=h;exact⟨xs,ha _ h,Paired.imp' (λ_ _ q=>⟨q.1,let ⟨d,a,b⟩:=q.2.1;⟨d,a,b.mv ft ff⟩,let ⟨v,a,b⟩:=q.2.2;⟨v,a,b.mv ft ff⟩⟩) q,r⟩
end
section
variable{X:Cx}{ca:Nat->Addr}{E:Expr}{i n:Nat}{j:Int}{cap:List Nat}{t:MG}{c:MT}{e:ME}
theorem QlA(h:PE3 ca X E (ZO (Qau (mOp2 pIx (mVar i) (mLit (.int j)))) n cap t c e)):PE3 ca X E (Qbr i j n cap t c e):=λpn Φ pins s σ H Q I hq=>by
 obtain⟨σ3,g,μ,R,q⟩:=hq
 unfold Qbr at q
 cases hm:mOp2 pIx (mVar i) (mLit (.int j)) σ3 g with
 |raise _ _=>rw[hm]at q;exact q.elim
 |stuck=>rw[hm]at q;exact q.elim
 |ok d0 g0 =>
  rw[hm]at q
  cases d0 with
  |ref r =>
   dsimp only at q
   cases hc:ZO (Qau (mOp2 pIx (mVar i) (mLit (.int j)))) n cap t c e σ3 g with
   |raise _ _=>rw[hc]at q;exact q.elim
   |stuck=>rw[hc]at q;exact q.elim
   |ok d g' =>
    rw[hc]at q
    dsimp only at q
    cases hg:g[r]? with
    |none=>rw[hg]at q;exact q.elim
    |some ob =>
     cases hg':g'[r]? with
     |none=>rw[hg,hg']at q;cases ob <;> exact q.elim
     |some ob' =>
      rw[hg,hg']at q
      cases ob with
      |dct ks0 =>
       cases ob' with
       |dfz ks =>
        obtain⟨a,ha,kv0,hH0,_⟩:=R.g.addr hg
        have hne:∀o u,X.H₀ a≠some (.frz o u):=λo u z=>by
         have:=I.base.frzs a o u z
         rw[hH0]at this;cases this
        have key:=h pn Φ pins s σ H (λv H'=>∃μ',Ext X.K μ H μ' H'/\GRep X.K ca μ' H' g'/\Den X.K μ' H' v d) I ⟨σ3,g,μ,R,by rw[hc];exact λv H' μ' ex gr dn=>⟨μ',ex,gr,dn⟩⟩
        refine Tc key (λv s' hv=>?_) λ_ _ z=>z
        obtain⟨x,H',I',rx,μ',ex,gr,dn⟩:=hv
        obtain⟨a',ha',o,kv,hH',kr⟩:=gr.addr hg'
        rw[ex.at ha]at ha';cases ha'
        have hu:∀{b:Addr},b≠a->upd H' a (.dK kv) b=H' b:=λh=>Qs h
        have tups:∀b xs,SqT X.K H' b xs->SqT X.K (upd H' a (.dK kv)) b xs:=λb xs hb=>by
         rcases hb with(z|⟨u,z⟩)|z
         ·exact .inl (.inl (by rw[hu (QcX z hH' (λz=>by cases z))];exact z))
         ·by_cases hb:b=a
          ·subst hb;rw[hH']at z;cases z
          ·exact .inl (.inr ⟨u,by rw[hu hb];exact z⟩)
         ·exact .inr z
        have fls:∀b xs,SqF X.K H' b xs->SqF X.K (upd H' a (.dK kv)) b xs:=λb xs hb=>by
         rcases hb with⟨u,z⟩|z
         ·by_cases hb:b=a
          ·subst hb;rw[hH']at z;cases z
          ·exact .inl ⟨u,by rw[hu hb];exact z⟩
         ·exact .inr z
        have exF:Ext X.K μ H μ' (upd H' a (.dK kv)):=⟨ex.pre,λb xs z=>tups b xs (ex.tup b xs z),λb xs z=>fls b xs (ex.fl b xs z),λb o u z=>by
         rw[hu (λy=>by subst y;rw[hH0]at z;cases z)];exact ex.frz b o u z⟩
        have ar:=ex.at ha
        refine⟨x,upd H' a (.dK kv),thaw I' hH' hne,rx,q x _ μ' exF ⟨by rw[UR];exact gr.len,gr.nd,λm b w h1 h2=>?_⟩ (dn.mv tups fls)⟩
        by_cases em:m=r
        ·subst em
         rw[ar]at h1;cases h1
         rw[UW (Ue.mp hg').1]at h2;cases h2
         exact⟨kv,Qq,Paired.imp' (λ_ _ q=>⟨q.1,q.2.mv tups fls⟩) kr⟩
        ·rw[Ui (Ne.symm em)]at h2
         have nb:b≠a:=λz=>by
          subst z
          obtain⟨l1,q1⟩:=Ue.mp h1
          obtain⟨l2,q2⟩:=Ue.mp ar
          exact em ((Wb gr.nd).mp (q1.trans q2.symm))
         exact(gr.obj m b w h1 h2).mv tups fls λu z=>by rw[hu nb];exact z
       |_=>exact q.elim
      |_=>cases ob' <;> exact q.elim
  |_=>exact q.elim
end
theorem Qnm{X:Cx}{ca:Nat->Addr}{a b:Expr}{mr:MA}{x y:Str}{px py pt pt2 pos:Pos}{kt k2:Nat}(i j:Nat)(hc:X.calm=true)(hN:X.N.Nodup)(ha:PA3 ca X [a,b] mr)(hi:X.N[i]?=some x:=by rfl)(hj:X.N[j]?=some y:=by rfl)(hij:i≠j:=by decide)(hx:X.env.scope.names.lookup x=some .local:=by rfl)(hy:X.env.scope.names.lookup y=some .local:=by rfl)(hw:swappedStores [.Tuple [.Name x px,.Name y py] kt pt] (.Tuple [a,b] k2 pt2) X.env=pure (some [x,y]):=by rfl)(hs:swapsWithSole [.Tuple [.Name x px,.Name y py] kt pt] (.Tuple [a,b] k2 pt2) pos.line X.env=pure false:=by rfl):
  PS3 ca X (.Assign [.Tuple [.Name x px,.Name y py] kt pt] (.Tuple [a,b] k2 pt2) pos) (mAsg (Yo [gSet i,gSet j]) (mOpA pTup mr)) :=
 λpn Φ=>Z9 (Qms (X:=xat X ca pn Φ) hc hN hi hj hij hx hy (ha pn Φ) hw hs) λE σ H h=>by
  obtain⟨σ3,g,μ,R,p⟩:=h
  refine⟨σ3,g,μ,R,?_⟩
  unfold mAsg mOpA at p
  cases hm:mr σ3 g with
  |ok ds g1 =>
   rw[hm,Res.bind_ok]at p
   unfold pTup at p
   by_cases z:ds.length<=SZ
   ·rw[Uc z]at p
    dsimp only at p
    match ds,p with
    |[],p=>exact p.elim
    |[d1],p=>exact p.elim
    |[d1,d2],p =>
     intro vs H' μ' e' r' q'
     cases q' with
     |cons q1 q2 =>
      cases q2 with
      |cons q2 q3 =>
       cases q3
       exact⟨_,_,rfl,p _ H' μ' e' (((R.go e' r').set q1 i).set q2 j)⟩
    |d1::d2::d3::r,p=>exact p.elim
   ·rw[Uh z]at p;exact p.elim
  |raise _ _=>rw[hm]at p;exact RaP.stmt R p
  |stuck=>rw[hm]at p;exact p
end L3
namespace L3
open PySem
noncomputable def QgC:MS:=(mRet (mAnd (mOp1 (Jp .int) (mVar 0)) (mNot (mOp1 (Jp .bool) (mVar 0)))))
noncomputable def Yx:MF:=mDef 1 0 QgC
noncomputable def QgD:MS:=(mRet (mAnd (Qr Yx (Qb (mVar 0) mNil)) (QcO pLe pLt (mLit (.int 0)) (mVar 0) (mVar 1))))
noncomputable def Zi:MF:=mDef 2 0 QgD
noncomputable def QgE:MS:=(mSeq (mIf (Qf (mOp2 pIs (mVar 0) (mLit .non))) (mRet (mLit (.bl true))) QN)
 (mSeq (mIf (mOrT (QaB (Qf (mOp1 (Jp .tuple) (mVar 0)))) (Qf (mOp2 pNe (mOp1 pLen (mVar 0)) (mLit (.int 3))))) (mRet (mLit (.bl false))) QN)
 (mRet (mAnd (Qr Zi (Qb (mOp2 pIx (mVar 0) (mLit (.int 0))) (Qb (mVar 2) mNil))) (mAnd (mOp2 (pIn false) (mOp2 pIx (mVar 0) (mLit (.int 1))) (mOpA pTup (Qb (mLit (.str "l")) (Qb (mLit (.str "r")) mNil)))) (Qr Zi (Qb (mOp2 pIx (mVar 0) (mLit (.int 2))) (Qb (mVar 1) mNil))))))))
noncomputable def Yy:MF:=mDef 3 0 QgE
noncomputable def Zb:MS:=(mSeq (mIf (Qf (mOp2 pNe (mOp1 pLen (mVar 3)) (mVar 2))) Qbo QN)
 (mIf (QaB (Qf (mOp1 pAll (ZO (QQ (mVar 3)) 1 [1,2] (gSet 0) Yf (Qr Yy (Qb (mVar 0) (Qb (mVar 1) (Qb (mVar 2) mNil)))))))) Qbo QN))
noncomputable def ZS:MS:=(mSeq (mIf (Qf (mOp2 pEq (mOp1 pLen (mVar 0)) (mLit (.int 0)))) Qbo QN)
 (mSeq (mAsg (gSet 1) (mOp1 pLen (mVar 0)))
 (mSeq (mAsg (gSet 2) (mOp1 pLen (mOp2 pIx (mVar 0) (mLit (.int 0)))))
 (mSeq (mIf (Qf (mOp2 pEq (mVar 2) (mLit (.int 0)))) Qbo QN)
 (mFor (QQ (mVar 0)) (gSet 3) Zb)))))
noncomputable def ZT:MF:=mDef 1 3 ZS
noncomputable def Qam:MS:=(mSeq (mAsg (gSet 2) (mOp1 Ym (ZO (QQ (mVar 1)) 1 [] (gSet 0) Yf (mOp1 Ym (mVar 0)))))
 (mSeq (Z7 (Qr ZT (Qb (mVar 2) mNil)))
 (QR [11,12] "table" (mVar 0) (mVar 2))))
noncomputable def ZJ:MF:=mDef 2 1 Qam
noncomputable def Zt:MS:=(mSeq (mAsg (gSet 10) (mIfE (Qf (mOp2 pGt (mVar 8) (mLit (.int 0)))) (mOp2 pGe (mVar 9) (mVar 6)) (mOp2 pLe (mVar 9) (mVar 7))))
 (mIf (ZN (Qf (mVar 10)) (Qf (mOp2 pNe (Qal (mOp2 pIx (mVar 3) (mLit (.int 2))) (mVar 9) (mLit (.int 0))) (Qal (mOp2 pIx (mVar 4) (mLit (.int 2))) (mOp2 pAdd (mVar 9) (mVar 8)) (mLit (.int 0)))))) (mRet (mLit (.bl false))) QN))
noncomputable def JH:MS:=(mSeq (mAsg (Yo [(gSet 3),(gSet 4)]) (mOpA pTup (Qb (mOp2 pIx (mVar 0) (mVar 1)) (Qb (mOp2 pIx (mVar 0) (mVar 2)) mNil))))
 (mSeq (mIf (mOrT (Qf (mOp2 pNe (mOp2 pIx (mVar 3) (mLit (.int 0))) (mOp2 pIx (mVar 4) (mLit (.int 0))))) (Qf (mOp2 pEq (mOp2 pIx (mVar 3) (mLit (.int 1))) (mOp2 pIx (mVar 4) (mLit (.int 1)))))) (mRet (mLit (.bl false))) QN)
 (mSeq (mAsg (gSet 5) (ZO (QQ (QcP (mVar 0) (QcB (mVar 1)) (QcB (mOp2 pAdd (mVar 2) (mLit (.int 1)))))) 1 [] (gSet 0) Yf (mOp2 pIx (mVar 0) (mLit (.int 1)))))
 (mSeq (mAsg (Yo [(gSet 6),(gSet 7)]) (mOpA pTup (Qb (mOp1 Qh3 (mVar 5)) (Qb (mOp1 Qh4 (mVar 5)) mNil))))
 (mSeq (mAsg (gSet 8) (mOp2 pSub (mOp2 pIx (mVar 4) (mLit (.int 1))) (mOp2 pIx (mVar 3) (mLit (.int 1)))))
 (mSeq (mFor (QQ (mOp2 pAdd (mOp1 Qa8 (mOp2 pIx (mVar 3) (mLit (.int 2)))) (Qbr 4 2 1 [8] (gSet 0) Yf (mOp2 pSub (mVar 0) (mVar 1))))) (gSet 9) Zt)
 (mRet (mLit (.bl true)))))))))
noncomputable def Jg:MF:=mDef 3 8 JH
noncomputable def Qdj:MS:=(mSeq (mAsg (Yo [(gSet 1),(gSet 2),(gSet 3)]) (mVar 0))
 (mRet (mOpA pTup (Qb (mVar 1) (Qb (mVar 2) (Qb (mOp1 Ym (ZO (QQ (mOp1 Qas (mOp1 Qa8 (mVar 3)))) 1 [3] (gSet 0) Yf (mOpA pTup (Qb (mVar 0) (Qb (mOp2 pDIx (mVar 1) (mVar 0)) mNil))))) mNil))))))
noncomputable def J8:MF:=mDef 1 3 Qdj
noncomputable def Qx:MS:=(mSeq (mIf (ZN (Qf (mOp2 pEq (mVar 2) (mLit (.str "same")))) (Qf (mOp2 pEq (Qr J8 (Qb (mOp2 pIx (mVar 0) (mVar 4)) mNil)) (Qr J8 (Qb (mOp2 pIx (mVar 0) (mVar 3)) mNil))))) (mRet (mOpA pTup (Qb (mVar 2) (Qb (mVar 4) (Qb (mVar 3) mNil))))) QN)
 (mIf (ZN (Qf (mOp2 pEq (mVar 2) (mLit (.str "shifted")))) (Qf (Qr Jg (Qb (mVar 0) (Qb (mVar 4) (Qb (mVar 3) mNil)))))) (mRet (mOpA pTup (Qb (mVar 2) (Qb (mVar 4) (Qb (mVar 3) mNil))))) QN))
noncomputable def QU:MS:=(mFor (Zs (mVar 3)) (gSet 4) Qx)
noncomputable def Y5:MS:=(mSeq (mFor (Q7 (mLit (.int 1)) (mOp2 Qdg (mOp1 pLen (mVar 0)) (mOp2 pAdd (mVar 1) (mLit (.int 1))))) (gSet 3) QU)
 (mRet (mLit .non)))
noncomputable def Q2:MF:=mDef 3 2 Y5
noncomputable def Yq(me:MF):MS:=(mSeq (mIf (mOrT (Qf (mOp1 (Jp .list) (mVar 1))) (Qf (mOp1 (Jp .tuple) (mVar 1)))) (mSeq (mIf (mOrT (Qf (mOp2 pNe (mOp1 (Jp .list) (mVar 0)) (mOp1 (Jp .list) (mVar 1)))) (Qf (mOp2 pNe (mOp1 (Jp .tuple) (mVar 0)) (mOp1 (Jp .tuple) (mVar 1))))) (mRet (mLit (.bl false))) QN)
 (mRet (mAnd (mOp2 pEq (mOp1 pLen (mVar 0)) (mOp1 pLen (mVar 1))) (mOp1 pAll (ZO (QfA (mVar 0) (mVar 1)) 2 [] (Yo [(gSet 0),(gSet 1)]) Yf (Qr me (Qb (mVar 0) (Qb (mVar 1) mNil)))))))) QN)
 (mSeq (mIf (Qf (mOp2 pIs (mVar 1) (mLit .non))) (mRet (mOp2 pIs (mVar 0) (mLit .non))) QN)
 (mSeq (mIf (Qf (mOp1 (Jp .str) (mVar 1))) (mRet (mAnd (mOp1 (Jp .str) (mVar 0)) (mOp2 pEq (mVar 0) (mVar 1)))) QN)
 (mRet (mAnd (mOp1 (Jp .int) (mVar 0)) (mAnd (mNot (mOp1 (Jp .bool) (mVar 0))) (mOp2 pEq (mVar 0) (mVar 1))))))))
noncomputable def Zg:Nat->MF
 |0=>λ_ _=>.stuck
 |k+1=>mDef 2 0 (Yq (Zg k))
noncomputable def Qav:MS:=(mSeq (QR [11,12] "table" (mVar 0) (QP [11,12] "table" (mVar 1)))
 (mSeq (QR [12] "state" (mVar 0) (mOp2 pIx (mVar 2) (mLit (.int 0))))
 (mSeq (QR [12] "place" (mVar 0) (mOp2 pIx (mVar 2) (mLit (.int 1))))
 (mSeq (QR [12] "left_marks" (mVar 0) (ZO (QQ (mOp2 pIx (mVar 2) (mLit (.int 2)))) 2 [0] (Yo [(gSet 0),(gSet 1)]) (Qf (mOp2 pLt (mVar 0) (QP [12] "place" (mVar 2)))) (mOpA pTup (Qb (mVar 0) (Qb (mVar 1) mNil)))))
 (QR [12] "right_marks" (mVar 0) (ZO (QfO (mOp2 pIx (mVar 2) (mLit (.int 2)))) 2 [0] (Yo [(gSet 0),(gSet 1)]) (Qf (mOp2 pGe (mVar 0) (QP [12] "place" (mVar 2)))) (mOpA pTup (Qb (mVar 0) (Qb (mVar 1) mNil)))))))))
noncomputable def YE:MF:=mDef 3 0 Qav
noncomputable def Qe4:MS:=(mRet (mOpA pTup (Qb (QP [12] "state" (mVar 0)) (Qb (QP [12] "place" (mVar 0)) (Qb (mOp2 pAdd (mOp1 Ym (QP [12] "left_marks" (mVar 0))) (mOp1 Jf (QP [12] "right_marks" (mVar 0)))) mNil)))))
noncomputable def ZQ:MF:=mDef 1 0 Qe4
noncomputable def Qa9:MS:=(mRet (mAnd (mOp2 pGt (mOp1 pLen (QP [12] "right_marks" (mVar 0))) (mLit (.int 0))) (mOp2 pEq (mOp2 pIx (mOp2 pIx (QP [12] "right_marks" (mVar 0)) (mOp1 pNeg (mLit (.int 1)))) (mLit (.int 0))) (QP [12] "place" (mVar 0)))))
noncomputable def QF:MF:=mDef 1 0 Qa9
noncomputable def JI:MS:=(mSeq (mAsg (gSet 1) (mIfE (Qf (Zr 12 (Str.ofString "is_on_mark") QF (mVar 0) mNil)) (mOp2 pIx (mOp2 pIx (QP [12] "right_marks" (mVar 0)) (mOp1 pNeg (mLit (.int 1)))) (mLit (.int 1))) (mLit (.int 0))))
 (mRet (mOp2 pIx (mOp2 pIx (QP [11,12] "table" (mVar 0)) (QP [12] "state" (mVar 0))) (mVar 1))))
noncomputable def YS:MF:=mDef 1 1 JI
noncomputable def Y6:MS:=(mSeq (QR [12] "place" (mVar 0) (mOp2 pSub (QP [12] "place" (mVar 0)) (mLit (.int 1))))
 (mIf (ZN (Qf (mOp2 pGt (mOp1 pLen (QP [12] "left_marks" (mVar 0))) (mLit (.int 0)))) (Qf (mOp2 pEq (mOp2 pIx (mOp2 pIx (QP [12] "left_marks" (mVar 0)) (mOp1 pNeg (mLit (.int 1)))) (mLit (.int 0))) (QP [12] "place" (mVar 0))))) (Z7 (ZP (QP [12] "right_marks" (mVar 0)) (mOp1 pPop (QP [12] "left_marks" (mVar 0))))) QN))
noncomputable def Yd:MF:=mDef 1 0 Y6
noncomputable def YF:MS:=(mSeq (mIf (Qf (Zr 12 (Str.ofString "is_on_mark") QF (mVar 0) mNil)) (Z7 (ZP (QP [12] "left_marks" (mVar 0)) (mOp1 pPop (QP [12] "right_marks" (mVar 0))))) QN)
 (QR [12] "place" (mVar 0) (mOp2 pAdd (QP [12] "place" (mVar 0)) (mLit (.int 1)))))
noncomputable def Z2:MF:=mDef 1 0 YF
noncomputable def Yh:MS:=(mSeq (mIf (Qf (Zr 12 (Str.ofString "is_on_mark") QF (mVar 0) mNil)) (Z7 (mOp1 pPop (QP [12] "right_marks" (mVar 0)))) QN)
 (mIf (Qf (mOp2 pNe (mVar 1) (mLit (.int 0)))) (Z7 (ZP (QP [12] "right_marks" (mVar 0)) (mOpA pTup (Qb (QP [12] "place" (mVar 0)) (Qb (mVar 1) mNil))))) QN))
noncomputable def YT:MF:=mDef 2 0 Yh
noncomputable def ZK:MS:=(mSeq (mAsg (gSet 1) (Zr 12 (Str.ofString "entry") YS (mVar 0) mNil))
 (mSeq (mIf (Qf (mOp2 pIs (mVar 1) (mLit .non))) (mRet (mLit (.bl false))) QN)
 (mSeq (Z7 (Zr 12 (Str.ofString "write") YT (mVar 0) (Qb (mOp2 pIx (mVar 1) (mLit (.int 0))) mNil)))
 (mSeq (mIf (Qf (mOp2 pEq (mOp2 pIx (mVar 1) (mLit (.int 1))) (mLit (.str "r")))) (Z7 (Zr 12 (Str.ofString "go_right") Z2 (mVar 0) mNil)) (Z7 (Zr 12 (Str.ofString "go_left") Yd (mVar 0) mNil)))
 (mSeq (QR [12] "state" (mVar 0) (mOp2 pIx (mVar 1) (mLit (.int 2))))
 (mRet (mLit (.bl true))))))))
noncomputable def Qo:MF:=mDef 1 1 ZK
noncomputable def J9:MS:=(Z7 (ZP (mVar 3) (Zr 12 (Str.ofString "shot") ZQ (mVar 2) mNil)))
noncomputable def Qe5:MS:=(mSeq (mAsg (gSet 2) (Qc5 12 YE (Qb (mVar 0) (Qb (mLit (.tup [(.int 0),(.int 0),(.tup [])])) mNil))))
 (mSeq (mAsg (gSet 3) (mOpA newL (Qb (Zr 12 (Str.ofString "shot") ZQ (mVar 2) mNil) mNil)))
 (mSeq (QbW (ZN (Qf (mOp2 pLe (mOp1 pLen (mVar 3)) (mVar 1))) (Qf (Zr 12 (Str.ofString "stepped") Qo (mVar 2) mNil))) J9)
 (mRet (mVar 3)))))
noncomputable def Qba:MF:=mDef 2 2 Qe5
noncomputable def Zu:MS:=(mSeq (mIf (Qf (mOp2 pInN (mVar 4) (mVar 2))) (mRet (mOpA pTup (Qb (mLit (.str "same")) (Qb (mOp2 pIxN (mVar 2) (mVar 4)) (Qb (mVar 3) mNil))))) QN)
 (Qeb (mVar 2) (mVar 4) (mVar 3)))
noncomputable def Qb8:MS:=(mSeq (mAsg (gSet 2) QkF)
 (mSeq (mFor (Qa6 (Qr Qba (Qb (mVar 0) (Qb (mVar 1) mNil)))) (Yo [(gSet 3),(gSet 4)]) Zu)
 (mRet (mLit .non))))
noncomputable def QaN:MF:=mDef 2 3 Qb8
noncomputable def Qed:MS:=(mRet (ZO (QQ (mOp2 pIx (mVar 0) (mLit (.int 2)))) 2 [0,1] (Yo [(gSet 0),(gSet 1)]) (Qf (mOp2 pGe (mOp2 pSub (mVar 0) (mOp2 pIx (mVar 2) (mLit (.int 1)))) (mOp1 pNeg (mVar 3)))) (mOpA pTup (Qb (mOp2 pSub (mVar 0) (mOp2 pIx (mVar 2) (mLit (.int 1)))) (Qb (mVar 1) mNil)))))
noncomputable def ZU:MF:=mDef 2 0 Qed
noncomputable def Qdk:MS:=(mRet (ZO (QQ (mOp2 pIx (mVar 0) (mLit (.int 2)))) 2 [0,1] (Yo [(gSet 0),(gSet 1)]) (Qf (mOp2 pLe (mOp2 pSub (mVar 0) (mOp2 pIx (mVar 2) (mLit (.int 1)))) (mVar 3))) (mOpA pTup (Qb (mOp2 pSub (mVar 0) (mOp2 pIx (mVar 2) (mLit (.int 1)))) (Qb (mVar 1) mNil)))))
noncomputable def ZC:MF:=mDef 2 0 Qdk
noncomputable def QY:MS:=(mSeq (mIf (mOrT (Qf (mOp2 pNe (mOp2 pIx (mVar 0) (mLit (.int 0))) (mOp2 pIx (mVar 1) (mLit (.int 0))))) (Qf (mOp2 pEq (mOp2 pIx (mVar 0) (mLit (.int 1))) (mOp2 pIx (mVar 1) (mLit (.int 1)))))) (mRet (mLit (.bl false))) QN)
 (mSeq (mIf (Qf (mOp2 pLt (mOp2 pIx (mVar 0) (mLit (.int 1))) (mOp2 pIx (mVar 1) (mLit (.int 1))))) (mRet (mOp2 pEq (Qr ZU (Qb (mVar 0) (Qb (mVar 2) mNil))) (Qr ZU (Qb (mVar 1) (Qb (mVar 2) mNil))))) QN)
 (mRet (mOp2 pEq (Qr ZC (Qb (mVar 0) (Qb (mVar 3) mNil))) (Qr ZC (Qb (mVar 1) (Qb (mVar 3) mNil)))))))
noncomputable def ZV:MF:=mDef 4 0 QY
noncomputable def QZ:MS:=(mSeq (mAsg (gSet 7) (mOp2 pIx (mVar 0) (mVar 6)))
 (mSeq (mAsg (gSet 3) (mOp2 Qdg (mVar 3) (mOp2 pIx (mVar 7) (mLit (.int 1)))))
 (mSeq (mAsg (gSet 4) (mOp2 Qh2 (mVar 4) (mOp2 pIx (mVar 7) (mLit (.int 1)))))
 (mIf (Qf (Qr ZV (Qb (mVar 7) (Qb (mVar 2) (Qb (mOp2 pSub (mOp2 pIx (mVar 7) (mLit (.int 1))) (mVar 3)) (Qb (mOp2 pSub (mVar 4) (mOp2 pIx (mVar 7) (mLit (.int 1)))) mNil)))))) (mAsg (gSet 5) (mVar 6)) QN))))
noncomputable def YG:MS:=(mSeq (mAsg (gSet 2) (mOp2 pIx (mVar 0) (mVar 1)))
 (mSeq (mAsg (gSet 3) (mOp2 pIx (mVar 2) (mLit (.int 1))))
 (mSeq (mAsg (gSet 4) (mOp2 pIx (mVar 2) (mLit (.int 1))))
 (mSeq (mAsg (gSet 5) (mLit .non))
 (mSeq (mFor (JG (mOp2 pSub (mVar 1) (mLit (.int 1))) (mOp1 pNeg (mLit (.int 1)))) (gSet 6) QZ)
 (mRet (mVar 5)))))))
noncomputable def Z3:MF:=mDef 2 6 YG
noncomputable def QW:MS:=(mSeq (mAsg (gSet 4) (Qr Z3 (Qb (mVar 2) (Qb (mVar 3) mNil))))
 (mIf (Qf (mOp2 YB (mVar 4) (mLit .non))) (mRet (mOpA pTup (Qb (mLit (.str "shifted")) (Qb (mVar 4) (Qb (mVar 3) mNil))))) QN))
noncomputable def JJ:MS:=(mSeq (mAsg (gSet 2) (Qr Qba (Qb (mVar 0) (Qb (mVar 1) mNil))))
 (mSeq (mFor (Q7 (mLit (.int 1)) (mOp1 pLen (mVar 2))) (gSet 3) QW)
 (mRet (mLit .non))))
noncomputable def YU:MF:=mDef 2 3 JJ
noncomputable def Jh:MS:=(mSeq (mIf (mOrT (QaB (Qf (mOp1 (Jp .tuple) (mVar 0)))) (mOrT (Qf (mOp2 pNe (mOp1 pLen (mVar 0)) (mLit (.int 3)))) (Qf (mOp2 pNe (mOp2 pIx (mVar 0) (mLit (.int 0))) (mVar 1))))) (mRet (mLit (.bl false))) QN)
 (mRet (mAnd (Qr Yx (Qb (mOp2 pIx (mVar 0) (mLit (.int 2))) mNil)) (Qr Zi (Qb (mOp2 pIx (mVar 0) (mLit (.int 1))) (Qb (mOp2 pIx (mVar 0) (mLit (.int 2))) mNil))))))
noncomputable def Ji:MF:=mDef 2 0 Jh
noncomputable def Js:MS:=(mAsg (gSet 2) (mOp2 pAdd (mVar 2) (mLit (.int 1))))
noncomputable def Qbb:MS:=(mSeq (mAsg (gSet 2) (mLit (.int 0)))
 (mSeq (QbW (ZN (Qf (mOp2 pLt (mVar 2) (mVar 1))) (Qf (Zr 12 (Str.ofString "stepped") Qo (mVar 0) mNil))) Js)
 (mRet (mVar 2))))
noncomputable def Qaa:MF:=mDef 2 1 Qbb
noncomputable def Yr:MS:=(mSeq (mIf (QaB (Qf (Zr 12 (Str.ofString "stepped") Qo (mVar 3) mNil))) (mRet (mLit .non)) QN)
 (mSeq (mAsg (gSet 5) (mOp2 Qdg (mVar 5) (QP [12] "place" (mVar 3))))
 (mAsg (gSet 6) (mOp2 Qh2 (mVar 6) (QP [12] "place" (mVar 3))))))
noncomputable def Qbc:MS:=(mSeq (mAsg (gSet 3) (Qc5 12 YE (Qb (mVar 0) (Qb (mLit (.tup [(.int 0),(.int 0),(.tup [])])) mNil))))
 (mSeq (mIf (Qf (mOp2 pLt (Zr 12 (Str.ofString "run") Qaa (mVar 3) (Qb (mVar 1) mNil)) (mVar 1))) (mRet (mLit .non)) QN)
 (mSeq (mAsg (gSet 4) (Zr 12 (Str.ofString "shot") ZQ (mVar 3) mNil))
 (mSeq (mAsg (gSet 5) (mOp2 pIx (mVar 4) (mLit (.int 1))))
 (mSeq (mAsg (gSet 6) (mOp2 pIx (mVar 4) (mLit (.int 1))))
 (mSeq (mFor (Q7 (mVar 1) (mVar 2)) (gSet 7) Yr)
 (mRet (mOpA pTup (Qb (mVar 4) (Qb (Zr 12 (Str.ofString "shot") ZQ (mVar 3) mNil) (Qb (mOp2 pSub (mOp2 pIx (mVar 4) (mLit (.int 1))) (mVar 5)) (Qb (mOp2 pSub (mVar 6) (mOp2 pIx (mVar 4) (mLit (.int 1)))) mNil))))))))))))
noncomputable def Qab:MF:=mDef 3 5 Qbc
noncomputable def Yi:MS:=(mSeq (mIf (QaB (Qf (Qr Ji (Qb (mVar 1) (Qb (mLit (.str "same")) mNil))))) (mRet (mLit (.bl false))) QN)
 (mSeq (mAsg (gSet 2) (Qr Qab (Qb (mVar 0) (Qb (mOp2 pIx (mVar 1) (mLit (.int 1))) (Qb (mOp2 pIx (mVar 1) (mLit (.int 2))) mNil)))))
 (mRet (mAnd (mOp2 YB (mVar 2) (mLit .non)) (mOp2 pEq (mOp2 pIx (mVar 2) (mLit (.int 0))) (mOp2 pIx (mVar 2) (mLit (.int 1))))))))
noncomputable def Zv:MF:=mDef 2 1 Yi
noncomputable def YH:MS:=(mSeq (mIf (QaB (Qf (Qr Ji (Qb (mVar 1) (Qb (mLit (.str "shifted")) mNil))))) (mRet (mLit (.bl false))) QN)
 (mSeq (mAsg (gSet 2) (Qr Qab (Qb (mVar 0) (Qb (mOp2 pIx (mVar 1) (mLit (.int 1))) (Qb (mOp2 pIx (mVar 1) (mLit (.int 2))) mNil)))))
 (mRet (mAnd (mOp2 YB (mVar 2) (mLit .non)) (Qr ZV (Qb (mOp2 pIx (mVar 2) (mLit (.int 0))) (Qb (mOp2 pIx (mVar 2) (mLit (.int 1))) (Qb (mOp2 pIx (mVar 2) (mLit (.int 2))) (Qb (mOp2 pIx (mVar 2) (mLit (.int 3))) mNil)))))))))
noncomputable def Zw:MF:=mDef 2 1 YH
noncomputable def Qe6:MS:=(mSeq (mIf (mOrT (Qf (Qr Zv (Qb (mVar 0) (Qb (mVar 1) mNil)))) (Qf (Qr Zw (Qb (mVar 0) (Qb (mVar 1) mNil))))) (mRet (mLit (.bl true))) QN)
 Qbo)
noncomputable def JK:MF:=mDef 2 0 Qe6
noncomputable def Qdl:MS:=(mSeq (mAsg (gSet 3) (Qr QaN (Qb (mVar 0) (Qb (mVar 2) mNil))))
 (mSeq (mAsg (gSet 4) (Qr YU (Qb (mVar 0) (Qb (mVar 2) mNil))))
 (mSeq (mIf (QaB (Qf (Qr (Zg 6) (Qb (mVar 3) (Qb (Qr Q2 (Qb (mVar 1) (Qb (mVar 2) (Qb (mLit (.str "same")) mNil)))) mNil))))) (mRet (mLit (.bl false))) QN)
 (mSeq (mIf (QaB (Qf (Qr (Zg 6) (Qb (mVar 4) (Qb (Qr Q2 (Qb (mVar 1) (Qb (mVar 2) (Qb (mLit (.str "shifted")) mNil)))) mNil))))) (mRet (mLit (.bl false))) QN)
 (mRet (mOp1 pAll (ZO (QQ (mOpA pTup (Qb (mVar 3) (Qb (mVar 4) mNil)))) 1 [0] (gSet 0) (Qf (mOp2 YB (mVar 0) (mLit .non))) (mOp2 pIsB (Qr JK (Qb (mVar 1) (Qb (mVar 0) mNil))) (mLit (.bl true))))))))))
noncomputable def QbK:MF:=mDef 3 2 Qdl
noncomputable def Qdm:MS:=(mSeq (Jt (mVar 1) (mLit (.int 0)) (mOp2 pAdd (mOp2 pIx (mVar 1) (mLit (.int 0))) (mLit (.int 1))))
 (mSeq (mAsg (gSet 2) (mIfE (Qf (mOp2 pGt (mOp1 pLen (mVar 0)) (mLit (.int 0)))) (mOp2 pIx (mVar 0) (mOp2 pMod (mOp2 pIx (mVar 1) (mLit (.int 0))) (mOp1 pLen (mVar 0)))) (mLit (.int 0))))
 (mSeq (mAsg (gSet 3) (mOp2 pMod (mOp2 pMul (mOp2 pAdd (mOp2 pAdd (mOp2 pMod (mVar 2) (mLit (.int 2147483647))) (mOp2 pMul (mOp2 pMul (mOp2 pIx (mVar 1) (mLit (.int 0))) (mOp2 pIx (mVar 1) (mLit (.int 0)))) (mLit (.int 7919)))) (mLit (.int 11))) (mLit (.int 48271))) (mLit (.int 2147483647))))
 (mRet (mOp2 pMod (mOp2 pMul (mVar 3) (mVar 3)) (mLit (.int 1999999973)))))))
noncomputable def YV:MF:=mDef 2 2 Qdm
noncomputable def Zx:MS:=(mSeq (mAsg (gSet 8) (Qr YV (Qb (mVar 0) (Qb (mVar 1) mNil))))
 (mSeq (mAsg (gSet 9) (mOpA pTup (Qb (mOp2 pMod (mOp2 Z8 (mVar 8) (mLit (.int 9))) (mVar 3)) (Qb (mOp2 pIx (mLit (.str "lr")) (mOp2 pMod (mOp2 Z8 (mVar 8) (mLit (.int 100))) (mLit (.int 2)))) (Qb (mOp2 pMod (mOp2 Z8 (mVar 8) (mLit (.int 300))) (mVar 2)) mNil)))))
 (mSeq (mIf (Qf (mOp2 pEq (mOp2 pMod (mVar 8) (mLit (.int 9))) (mLit (.int 0)))) (mAsg (gSet 9) (mLit .non)) QN)
 (Z7 (ZP (mVar 6) (mVar 9))))))
noncomputable def YW:MS:=(mSeq (mAsg (gSet 6) (mOpA newL mNil))
 (mSeq (mFor (Zs (mVar 3)) (gSet 7) Zx)
 (Z7 (ZP (mVar 4) (mVar 6)))))
noncomputable def Qb9:MS:=(mSeq (mAsg (gSet 4) (mOpA newL mNil))
 (mSeq (mFor (Zs (mVar 2)) (gSet 5) YW)
 (mRet (mVar 4))))
noncomputable def Qca:MF:=mDef 4 6 Qb9
noncomputable def Zc:MS:=(mSeq (mAsg (gSet 2) (Qr YV (Qb (mVar 0) (Qb (mVar 1) mNil))))
 (mSeq (mIf (ZN (Qf (mOp2 pEq (mOp2 pMod (mVar 2) (mLit (.int 3))) (mLit (.int 0)))) (Qf (mOp2 YB (mOp2 pIx (mOp2 pIx (mVar 5) (mVar 6)) (mVar 7)) (mLit .non)))) (Jt (mOp2 pIx (mVar 5) (mVar 6)) (mVar 7) (mOpA pTup (Qb (mOp2 pIx (mOp2 pIx (mOp2 pIx (mVar 5) (mVar 6)) (mVar 7)) (mLit (.int 0))) (Qb (mOp2 pIx (mOp2 pIx (mOp2 pIx (mVar 5) (mVar 6)) (mVar 7)) (mLit (.int 1))) (Qb (mVar 6) mNil))))) QN)
 (mIf (ZN (Qf (mOp2 pGt (mOp2 pMod (mOp2 Z8 (mVar 2) (mLit (.int 3))) (mLit (.int 7))) (mLit (.int 1)))) (Qf (mOp2 pIs (mOp2 pIx (mOp2 pIx (mVar 5) (mVar 6)) (mVar 7)) (mLit .non)))) (Jt (mOp2 pIx (mVar 5) (mVar 6)) (mVar 7) (mOpA pTup (Qb (mOp2 pMod (mOp2 Z8 (mVar 2) (mLit (.int 30))) (mVar 4)) (Qb (mOp2 pIx (mLit (.str "lr")) (mOp2 pMod (mOp2 Z8 (mVar 2) (mLit (.int 300))) (mLit (.int 2)))) (Qb (mOp2 pMod (mOp2 Z8 (mVar 2) (mLit (.int 600))) (mVar 3)) mNil))))) QN)))
noncomputable def Zd:MS:=(mFor (Zs (mVar 4)) (gSet 7) Zc)
noncomputable def Y7:MS:=(mSeq (mAsg (gSet 2) (Qr YV (Qb (mVar 0) (Qb (mVar 1) mNil))))
 (mSeq (mAsg (gSet 3) (mOp2 pIx (mOpA newL (Qb (mLit (.int 1)) (Qb (mLit (.int 2)) (Qb (mLit (.int 2)) (Qb (mLit (.int 3)) (Qb (mLit (.int 3)) (Qb (mLit (.int 4)) mNil))))))) (mOp2 pMod (mVar 2) (mLit (.int 6)))))
 (mSeq (mAsg (gSet 4) (mOp2 pIx (mOpA newL (Qb (mLit (.int 2)) (Qb (mLit (.int 2)) (Qb (mLit (.int 3)) (Qb (mLit (.int 2)) (Qb (mLit (.int 4)) (Qb (mLit (.int 1)) mNil))))))) (mOp2 pMod (mOp2 Z8 (mVar 2) (mLit (.int 6))) (mLit (.int 6)))))
 (mSeq (mIf (Qf (mOp2 pEq (mOp2 pMod (mOp2 Z8 (mVar 2) (mLit (.int 36))) (mLit (.int 13))) (mLit (.int 0)))) (mAsg (Yo [(gSet 3),(gSet 4)]) (mOpA pTup (Qb (mLit (.int 5)) (Qb (mLit (.int 8)) mNil)))) QN)
 (mSeq (mAsg (gSet 5) (Qr Qca (Qb (mVar 0) (Qb (mVar 1) (Qb (mVar 3) (Qb (mVar 4) mNil))))))
 (mSeq (mFor (Zs (mVar 3)) (gSet 6) Zd)
 (mRet (mVar 5))))))))
noncomputable def Y8:MF:=mDef 2 6 Y7
noncomputable def Qac:MS:=(mSeq (mAsg (Yo [(gSet 2),(gSet 3),(gSet 4)]) (mVar 1))
 (mSeq (mAsg (gSet 5) (mOp2 pIx (mOp2 pIx (mVar 0) (mVar 2)) (Qal (mVar 4) (mVar 3) (mLit (.int 0)))))
 (mSeq (mIf (Qf (mOp2 pIs (mVar 5) (mLit .non))) (mRet (mLit .non)) QN)
 (mSeq (mAsg (gSet 6) (mOp1 Qjp (mVar 4)))
 (mSeq (Qjr (mVar 6) (mVar 3) (mOp2 pIx (mVar 5) (mLit (.int 0))))
 (mSeq (mIf (Qf (mOp2 pEq (mOp2 pIx (mVar 5) (mLit (.int 0))) (mLit (.int 0)))) (Z7 (Qjq (mVar 6) (mVar 3))) QN)
 (mSeq (mIf (Qf (mOp2 pEq (mOp2 pIx (mVar 5) (mLit (.int 1))) (mLit (.str "r")))) (mRet (mOpA pTup (Qb (mOp2 pIx (mVar 5) (mLit (.int 2))) (Qb (mOp2 pAdd (mVar 3) (mLit (.int 1))) (Qb (mVar 6) mNil))))) QN)
 (mRet (mOpA pTup (Qb (mOp2 pIx (mVar 5) (mLit (.int 2))) (Qb (mOp2 pSub (mVar 3) (mLit (.int 1))) (Qb (mVar 6) mNil))))))))))))
noncomputable def Qad:MF:=mDef 2 5 Qac
noncomputable def ZD:MS:=(mSeq (mAsg (gSet 1) (Qr Qad (Qb (mVar 0) (Qb (mVar 1) mNil))))
 (mSeq (mIf (Qf (mOp2 pIs (mVar 1) (mLit .non))) (mRet (mVar 3)) QN)
 (Z7 (ZP (mVar 3) (mVar 1)))))
noncomputable def Qe7:MS:=(mSeq (mAsg (gSet 3) (mOpA newL (Qb (mVar 1) mNil)))
 (mSeq (QbW (Qf (mOp2 pLe (mOp1 pLen (mVar 3)) (mVar 2))) ZD)
 (mRet (mVar 3))))
noncomputable def Qe8:MF:=mDef 3 1 Qe7
noncomputable def QlB:MS:=(mSeq (mAsg (gSet 1) (mOpA newL (Qb (mLit (.int 0)) mNil)))
 (mSeq (mAsg (gSet 2) (Qr Y8 (Qb (mVar 0) (Qb (mVar 1) mNil))))
 (mSeq (mAsg (gSet 3) (Qc5 11 ZJ (Qb (mVar 2) mNil)))
 (mSeq (mAsg (gSet 4) (Qr Qe8 (Qb (mVar 2) (Qb (mOpA pTup (Qb (mLit (.int 0)) (Qb (mLit (.int 0)) (Qb Qna mNil)))) (Qb (mLit (.int 32)) mNil)))))
 (mSeq (mAsg (gSet 5) (mOp2 pSub (mOp2 pMod (Qr YV (Qb (mVar 0) (Qb (mVar 1) mNil))) (mLit (.int 33))) (mLit (.int 2))))
 (mRet (mOp1 pAll (ZO (QQ (mOpA pTup (Qb (mVar 5) (Qb (mOp2 pSub (mLit (.int 30)) (mOp2 pMod (mVar 5) (mLit (.int 5)))) mNil)))) 1 [3,4] (gSet 0) Yf (Qr QbK (Qb (mVar 1) (Qb (mVar 2) (Qb (mVar 0) mNil))))))))))))
noncomputable def QjD:MF:=mDef 1 5 QlB
structure Keeps(S:List Nat)(g g':G):Prop where
 len:g.length<=g'.length
 at':∀n o,n∉S->g[n]?=some o->g'[n]?=some o
theorem Keeps.refl{S:List Nat}{g:G}:Keeps S g g:=⟨Ug _,λ_ _ _ h=>h⟩
theorem Keeps.trans{S:List Nat}{g g1 g2:G}(a:Keeps S g g1)(b:Keeps S g1 g2):Keeps S g g2:=⟨Ux a.len b.len,λn o h e=>b.at' n o h (a.at' n o h e)⟩
theorem Keeps.mono{S T:List Nat}{g g1:G}(a:Keeps S g g1)(h:∀n∈S,n∈T):Keeps T g g1:=⟨a.len,λn o q e=>a.at' n o (λz=>q (h n z)) e⟩
theorem Keeps.all{S:List Nat}{g g1:G}(a:Keeps [] g g1):Keeps S g g1:=a.mono (by simp)
theorem Keeps.push{S:List Nat}{g:G}(o:GO):Keeps S g (g++[o]):=⟨by simp,λn u _ e=>by
 have hl:n<g.length:=(Ue.mp e).1
 rw[Uy hl];exact e⟩
theorem Keeps.set{g:G}(n:Nat)(o:GO):Keeps [n] g (g.set n o):=⟨by simp,λm u h e=>by
 rw[Ui (λz=>h (by simp[z]))];exact e⟩
structure KeepsN(k:Nat)(S:List Nat)(g g':G):Prop where
 len:g.length<=g'.length
 at':∀n o,n<k->n∉S->g[n]?=some o->g'[n]?=some o
theorem KeepsN.refl{k:Nat}{S:List Nat}{g:G}:KeepsN k S g g:=⟨Ug _,λ_ _ _ _ h=>h⟩
theorem KeepsN.trans{k:Nat}{S:List Nat}{g g1 g2:G}(a:KeepsN k S g g1)(b:KeepsN k S g1 g2):KeepsN k S g g2:=⟨Ux a.len b.len,λn o l h e=>b.at' n o l h (a.at' n o l h e)⟩
theorem Keeps.n{k:Nat}{S T:List Nat}{g g1:G}(a:Keeps S g g1)(h:∀n∈S,n<k->n∈T):KeepsN k T g g1:=⟨a.len,λn o l q e=>a.at' n o (λz=>q (h n z l)) e⟩
theorem KeepsN.mono{j k:Nat}{S T:List Nat}{g g1:G}(a:KeepsN k S g g1)(hj:j<=k)(h:∀n∈S,n<j->n∈T):KeepsN j T g g1:=⟨a.len,λn o l q e=>a.at' n o (by omega) (λz=>q (h n z l)) e⟩
theorem KeepsN.keeps{S:List Nat}{g g1:G}(a:KeepsN g.length S g g1):Keeps S g g1:=⟨a.len,λn o q e=>a.at' n o (Ue.mp e).1 q e⟩
theorem QD{g:G}(o:GO):(g++[o])[g.length]?=some o:=by simp
theorem Q0{g:G}{n:Nat}{o:GO}(h:g[n]?=some o):n<g.length:=(Ue.mp h).1
theorem Q3{g:G}{n:Nat}{o u:GO}(h:g[n]?=some o):(g.set n u)[n]?=some u:=by rw[UW (Q0 h)]
noncomputable def QjE:Out->Prop
 |.rt _ _=>True
 |.raise _ _ _=>True
 |.stuck=>True
 |_=>False
theorem Ye{src:Src}{t:MG}{body:MS}{n:Nat}(I:Nat->S3->G->Prop)(R:Out->Prop)(step:∀i σ g,i<n->I i σ g->∃d σ1,src.at' g i=some (some d)/\t d σ=some σ1/\((∃σ2 g2,(body σ1 g=.nx σ2 g2\/body σ1 g=.ct σ2 g2)/\I (i+1) σ2 g2)\/(QjE (body σ1 g)/\R (body σ1 g))))(stop:∀σ g,I n σ g->src.at' g n=some none):∀(f i:Nat)(σ:S3)(g:G),n-i<f->i<=n->I i σ g->(∃σ' g',forL src t body f i σ g=.nx σ' g'/\I n σ' g')\/(QjE (forL src t body f i σ g)/\R (forL src t body f i σ g))
 |0,_,_,_,h,_,_=>by omega
 |f+1,i,σ,g,hf,hi,h=>by
  unfold forL
  by_cases e:i=n
  ·subst e
   rw[stop σ g h]
   exact .inl ⟨σ,g,rfl,h⟩
  ·obtain⟨d,σ1,h1,h2,h3⟩:=step i σ g (by omega) h
   rw[h1]
   dsimp only
   rw[h2]
   dsimp only
   rcases h3 with⟨σ2,g2,h3|h3,h4⟩|⟨h3,h4⟩
   ·rw[h3];exact Ye I R step stop f (i+1) σ2 g2 (by omega) (by omega) h4
   ·rw[h3];exact Ye I R step stop f (i+1) σ2 g2 (by omega) (by omega) h4
   ·cases hb:body σ1 g with
    |rt d g'=>rw[hb]at h4;exact .inr ⟨trivial,h4⟩
    |raise x σ' g'=>rw[hb]at h4;exact .inr ⟨trivial,h4⟩
    |nx _ _=>rw[hb]at h3;exact h3.elim
    |bk _ _=>rw[hb]at h3;exact h3.elim
    |ct _ _=>rw[hb]at h3;exact h3.elim
    |stuck=>rw[hb]at h4;exact .inr ⟨trivial,h4⟩
theorem JL{t:MG}{body:MS}{lo:Int}{n:Nat}{σ:S3}{g:G}(I:Nat->S3->G->Prop)(h0:I 0 σ g)(step:∀i σ g,i<n->I i σ g->∃σ1 σ2 g2,t (.int (lo+i)) σ=some σ1/\body σ1 g=.nx σ2 g2/\I (i+1) σ2 g2):∃σ' g',forL (QI lo n) t body (n+1) 0 σ g=.nx σ' g'/\I n σ' g':=by
 have:=Ye (src:=QI lo n) (t:=t) (body:=body) (n:=n) I (λ_=>False) (λi σ g hi h=>by
  obtain⟨σ1,σ2,g2,a,b,c⟩:=step i σ g hi h
  exact⟨.int (lo+i),σ1,by simp[QI,hi],a,.inl ⟨σ2,g2,.inl b,c⟩⟩) (λσ g _=>by simp[QI]) (n+1) 0 σ g (by omega) (by omega) h0
 rcases this with h|h
 ·exact h
 ·exact h.2.elim
theorem Qee{t:MG}{body:MS}{ds:List D}{σ:S3}{g:G}(I:Nat->S3->G->Prop)(R:Out->Prop)(h0:I 0 σ g)(step:∀i d σ g,ds[i]?=some d->I i σ g->∃σ1,t d σ=some σ1/\((∃σ2 g2,body σ1 g=.nx σ2 g2/\I (i+1) σ2 g2)\/(QjE (body σ1 g)/\R (body σ1 g)))):
  (∃σ' g',forL ⟨λ_ i=>some ds[i]?,ds.length⟩ t body (ds.length+1) 0 σ g=.nx σ' g'/\I ds.length σ' g')\/(QjE (forL ⟨λ_ i=>some ds[i]?,ds.length⟩ t body (ds.length+1) 0 σ g)/\R (forL ⟨λ_ i=>some ds[i]?,ds.length⟩ t body (ds.length+1) 0 σ g)) :=
 Ye (src:=⟨λ_ i=>some ds[i]?,ds.length⟩) (t:=t) (body:=body) (n:=ds.length) I R (λi σ g hi h=>by
  obtain⟨σ1,a,b⟩:=step i ds[i] σ g (by simp[hi]) h
  refine⟨ds[i],σ1,by simp[hi],a,?_⟩
  rcases b with⟨σ2,g2,b,c⟩|b
  ·exact .inl ⟨σ2,g2,.inl b,c⟩
  ·exact .inr b) (λσ g _=>by simp) (ds.length+1) 0 σ g (by omega) (by omega) h0
theorem QlC{src:Src}{t:MG}{body:MS}{n:Nat}{σ:S3}{g:G}(hn:src.top=n)(I:Nat->S3->G->Prop)(h0:I 0 σ g)(step:∀i σ g,i<n->I i σ g->∃d σ1 σ2 g2,src.at' g i=some (some d)/\t d σ=some σ1/\body σ1 g=.nx σ2 g2/\I (i+1) σ2 g2)(stop:∀σ g,I n σ g->src.at' g n=some none):∃σ' g',forL src t body (src.top+1) 0 σ g=.nx σ' g'/\I n σ' g':=by
 rw[hn]
 have:=Ye (src:=src) (t:=t) (body:=body) (n:=n) I (λ_=>False) (λi σ g hi h=>by
  obtain⟨d,σ1,σ2,g2,a,b,c,e⟩:=step i σ g hi h
  exact⟨d,σ1,a,b,.inl ⟨σ2,g2,.inl c,e⟩⟩) stop (n+1) 0 σ g (by omega) (by omega) h0
 rcases this with h|h
 ·exact h
 ·exact h.2.elim
theorem Zy{src:Src}{t:MG}{c:MT}{e:ME}{n:Nat}(I:Nat->S3->G->List D->Prop)(step:∀i σ g acc,i<n->I i σ g acc->∃d σ1 g1,src.at' g i=some (some d)/\t d σ=some σ1/\((∃y g2,c σ1 g=.ok true g1/\e σ1 g1=.ok y g2/\I (i+1) σ1 g2 (acc++[y]))\/(c σ1 g=.ok false g1/\I (i+1) σ1 g1 acc)))(stop:∀σ g acc,I n σ g acc->src.at' g n=some none):∀(f i:Nat)(σ:S3)(g:G)(acc:List D),n-i<f->i<=n->I i σ g acc->∃ds σ' g',Y2 src t c e f i σ g acc=.ok ds g'/\I n σ' g' ds
 |0,_,_,_,_,h,_,_=>by omega
 |f+1,i,σ,g,acc,hf,hi,h=>by
  unfold Y2
  by_cases q:i=n
  ·subst q
   rw[stop σ g acc h]
   exact⟨acc,σ,g,rfl,h⟩
  ·obtain⟨d,σ1,g1,h1,h2,h3⟩:=step i σ g acc (by omega) h
   rw[h1]
   dsimp only
   rw[h2]
   dsimp only
   rcases h3 with⟨y,g2,h3,h4,h5⟩|⟨h3,h5⟩
   ·rw[h3];dsimp only;rw[Uc rfl,h4];exact Zy I step stop f (i+1) σ1 g2 _ (by omega) (by omega) h5
   ·rw[h3];dsimp only;rw[Uh Ud];exact Zy I step stop f (i+1) σ1 g1 _ (by omega) (by omega) h5
theorem QgF{ds:List D}{e:ME}{no:Nat}{σ:S3}{g:G}{f:D->D}(hz:ds.length<=SZ)(he:∀d∈ds,∀g1,Keeps [] g g1->∃g2,e ((List.replicate (no+1) none++σ).set 0 (some d)) g1=.ok (f d) g2/\Keeps [] g1 g2):
  ∃g',Y2 ⟨λ_ i=>some ds[i]?,ds.length⟩ (gSet 0) Yf e (ds.length+1) 0 (List.replicate (no+1) none++σ) g []=.ok (ds.map f) g'/\Keeps [] g g':=by
 obtain⟨xs,σ',g',h1,h2,h3,h4⟩:=Zy (src:=⟨λ_ i=>some ds[i]?,ds.length⟩) (t:=gSet 0) (c:=Yf) (e:=e) (n:=ds.length)
  (λi σ' g1 acc=>acc=(ds.take i).map f/\Keeps [] g g1/\∃u,σ'=(List.replicate (no+1) none++σ).set 0 u) (λi σ' g1 acc hi h=>by
   obtain⟨h1,h2,u,h3⟩:=h
   obtain⟨g2,k1,k2⟩:=he ds[i] (UZ hi) g1 h2
   refine⟨ds[i],_,g1,by simp[hi],rfl,.inl ⟨f ds[i],g2,rfl,?_,?_,h2.trans k2,some ds[i],?_⟩⟩
   ·subst h3;rw[RH];exact k1
   ·rw[h1,U1 hi,UV];rfl
   ·subst h3;rw[RH]) (λσ g acc _=>by simp) (ds.length+1) 0 (List.replicate (no+1) none++σ) g [] (by omega) (by omega) ⟨by simp,.refl,none,by simp[T3]⟩
 refine⟨g',?_,h3⟩
 rw[h1,h2,TW]
end L3
section
namespace L3
theorem QlD(s t:PySem.Str)(g:G):pEq (.str s) (.str t) g=.ok (.bl (s == t)) g:=rfl
theorem QlE(i j:Int)(g:G):pEq (.int i) (.int j) g=.ok (.bl (i == j)) g:=rfl
open PySem
noncomputable def Qan(d:D)(n:Int):Bool:=match d with
 |.int i=>decide (0<=i/\i<n)
 |_=>false
noncomputable def Qnn:D->Bool
 |.int _=>true
 |_=>false
theorem Qaw(d:D)(n:Int)(g:G)(t:Ty)(_:tyOf g d=some t)(hp:Qnn d=true:=by rfl):Zi [d,.int n] g=.ok (.bl (Qan d n)) g:=by
 cases d with
 |int i =>
  have c:QcO pLe pLt (mLit (.int 0)) (mVar 0) (mVar 1) [some (.int i),some (.int n)] g=.ok (.bl (decide (0<=i/\i<n))) g:=by
   unfold QcO
   rw[show mLit (D.int 0) [some (D.int i),some (D.int n)] g=.ok (.int 0) g from rfl,Res.bind_ok,show mVar 0 [some (D.int i),some (D.int n)] g=.ok (.int i) g from rfl,Res.bind_ok,show pLe (.int 0) (.int i) g=.ok (.bl (decide (0<=i))) g from rfl,Res.bind_ok]
   by_cases h0:0<=i
   ·rw[Us h0]
    show Res.ok (D.bl (decide (i<n))) g=_
    by_cases h1:i<n
    ·rw[Us h1,Us ⟨h0,h1⟩]
    ·rw[Uq h1,Uq λz=>h1 z.2]
   ·rw[Uq h0,Uq λz=>h0 z.1]
  have a1:Qr Yx (Qb (mVar 0) mNil) [some (.int i),some (.int n)] g=.ok (.bl true) g:=rfl
  show(match mRet (mAnd (Qr Yx (Qb (mVar 0) mNil)) (QcO pLe pLt (mLit (.int 0)) (mVar 0) (mVar 1))) [some (.int i),some (.int n)] g with
   |.nx _ g'=>Res.ok D.non g'
   |.rt d g'=>.ok d g'
   |.raise e _ g'=>.raise e g'
   |_=>.stuck)=_
  unfold mRet mAnd
  rw[a1,Res.bind_ok]
  dsimp only
  rw[Uc rfl,c]
  rfl
 |_=>cases hp
theorem s_l:Str.ofString "l" = ⟨#[108]⟩:=by decide +kernel
theorem s_r:Str.ofString "r" = ⟨#[114]⟩:=by decide +kernel
noncomputable def wayD:D->Bool
 |.str s=>s == ⟨#[108]⟩ || s == ⟨#[114]⟩
 |_=>false
noncomputable def entD(d:D)(states signs:Int):Bool:=match d with
 |.non=>true
 |.tup [a,b,c]=>Qan a signs && wayD b && Qan c states
 |_=>false
def thingD(_:G)(d:D):Prop:=d=.non\/∃(i j:Int)(w:Str),d=.tup [.int i,.str w,.int j]
theorem QlF(s:Str)(g:G):pIn false (.str s) (.tup [.str ⟨#[108]⟩,.str ⟨#[114]⟩]) g=.ok (.bl (wayD (.str s))) g:=by
 show Res.ok (D.bl ((⟨#[108]⟩ == s) || ((⟨#[114]⟩ == s) || false))) g=.ok (.bl ((s == ⟨#[108]⟩) || (s == ⟨#[114]⟩))) g
 rw[show((⟨#[108]⟩:Str) == s)=(s == ⟨#[108]⟩) from BEq.comm,show((⟨#[114]⟩:Str) == s)=(s == ⟨#[114]⟩) from BEq.comm,Bool.or_false]
theorem Qe9(d:D)(states signs:Int)(g:G)(h:thingD g d):Yy [d,.int states,.int signs] g=.ok (.bl (entD d states signs)) g:=by
 rcases h with rfl|⟨i,j,w,rfl⟩
 ·rfl
 ·have a1:Qr Zi (Qb (mOp2 pIx (mVar 0) (mLit (.int 0))) (Qb (mVar 2) mNil)) [some (.tup [.int i,.str w,.int j]),some (.int states),some (.int signs)] g=.ok (.bl (Qan (.int i) signs)) g:=Qaw (.int i) signs g .int rfl
  have a3:Qr Zi (Qb (mOp2 pIx (mVar 0) (mLit (.int 2))) (Qb (mVar 1) mNil)) [some (.tup [.int i,.str w,.int j]),some (.int states),some (.int signs)] g=.ok (.bl (Qan (.int j) states)) g:=Qaw (.int j) states g .int rfl
  have a2:mOp2 (pIn false) (mOp2 pIx (mVar 0) (mLit (.int 1))) (mOpA pTup (Qb (mLit (.str "l")) (Qb (mLit (.str "r")) mNil))) [some (.tup [.int i,.str w,.int j]),some (.int states),some (.int signs)] g=.ok (.bl (wayD (.str w))) g:=by
   rw[s_l,s_r];exact QlF w g
  show(match (mRet (mAnd (Qr Zi (Qb (mOp2 pIx (mVar 0) (mLit (.int 0))) (Qb (mVar 2) mNil))) (mAnd (mOp2 (pIn false) (mOp2 pIx (mVar 0) (mLit (.int 1))) (mOpA pTup (Qb (mLit (.str "l")) (Qb (mLit (.str "r")) mNil)))) (Qr Zi (Qb (mOp2 pIx (mVar 0) (mLit (.int 2))) (Qb (mVar 1) mNil)))))) [some (.tup [.int i,.str w,.int j]),some (.int states),some (.int signs)] g with
   |.nx _ g'=>Res.ok D.non g'
   |.rt d g'=>.ok d g'
   |.raise e _ g'=>.raise e g'
   |_=>.stuck)=.ok (.bl (Qan (.int i) signs && wayD (.str w) && Qan (.int j) states)) g
  unfold mRet mAnd
  rw[a1,Res.bind_ok]
  dsimp only
  cases Qan (.int i) signs
  ·rfl
  ·rw[Uc rfl,a2,Res.bind_ok]
   dsimp only
   cases wayD (.str w)
   ·rfl
   ·rw[Uc rfl,a3];rfl
end L3
end
namespace L3
open PySem
theorem Keeps.ty{g g1:G}(k:Keeps [] g g1){d:D}{t:Ty}(h:tyOf g d=some t):tyOf g1 d=some t:=by
 cases d with
 |ref n =>
  unfold tyOf at h ⊢
  dsimp only at h ⊢
  cases hg:g[n]? with
  |none=>rw[hg]at h;cases h
  |some o=>rw[hg]at h;rw[k.at' n o (by simp) hg];exact h
 |_=>exact h
theorem thingD.mono{g g1:G}{d:D}(_:Keeps [] g g1)(h:thingD g d):thingD g1 d:=h
theorem QfV{α:Type}(f:α->Bool):∀ts:List α,allB (ts.map λd=>D.bl (f d))=some (ts.all f)
 |[]=>rfl
 |t::ts=>by simp[allB,QfV f ts]
noncomputable def YI(n m:Nat)(r:List D):Bool:=r.length == m && r.all λd=>entD d n m
noncomputable def QaO(rows:List (List D)):Bool:=match rows with
 |[]=>false
 |r::_=>r.length != 0 && rows.all (YI rows.length r.length)
theorem Qid(σ:S3)(g:G):Qbo σ g=.stuck:=rfl
theorem eq_int(i j:Int)(g:G):pEq (.int i) (.int j) g=.ok (.bl (i == j)) g:=rfl
theorem ne_int(i j:Int)(g:G):pNe (.int i) (.int j) g=.ok (.bl (!(i == j))) g:=rfl
theorem QlG(n m:Nat)(ts:List D)(x:D)(g:G)(hz:ts.length<=SZ)(h:∀d∈ts,thingD g d):
  ∃g',Keeps [] g g'/\mOp1 pAll (ZO (QQ (mVar 3)) 1 [1,2] (gSet 0) Yf (Qr Yy (Qb (mVar 0) (Qb (mVar 1) (Qb (mVar 2) mNil))))) [some x,some (.int n),some (.int m),some (.tup ts)] g=.ok (.bl (ts.all λd=>entD d n m)) g':=by
 obtain⟨g1,h1,k1⟩:=QgF (ds:=ts) (e:=Qr Yy (Qb (mVar 0) (Qb (mVar 1) (Qb (mVar 2) mNil)))) (no:=0) (σ:=[some (.int n),some (.int m)]) (g:=g) (f:=λd=>.bl (entD d n m)) hz
  (λd hd g1 k=>⟨g1,by simp[Qr,Qb,mNil,mVar,Res.bind,Qe9 d n m g1 ((h d hd).mono k)],.refl⟩)
 refine⟨g1++[.lst (ts.map λd=>.bl (entD d n m))],k1.trans (.push _),?_⟩
 have h1:Y2 ⟨λ_ i=>some ts[i]?,ts.length⟩ (gSet 0) Yf (Qr Yy (Qb (mVar 0) (Qb (mVar 1) (Qb (mVar 2) mNil)))) (ts.length+1) 0 [none,some (.int n),some (.int m)] g []=.ok (ts.map λd=>.bl (entD d n m)) g1:=h1
 simp[mOp1,ZO,QQ,mVar,Res.bind,QaC,hz,capt,h1,pAll,QfV]
theorem QjF(n m:Nat)(ts:List D)(x:D)(g:G)(hz:ts.length<=SZ)(h:∀d∈ts,thingD g d):
  ∃g',Keeps [] g g'/\Zb [some x,some (.int n),some (.int m),some (.tup ts)] g=if YI n m ts=true then .nx [some x,some (.int n),some (.int m),some (.tup ts)] g' else .stuck:=by
 by_cases hl:ts.length=m
 ·obtain⟨g2,k2,e2⟩:=QlG n m ts x g hz h
  refine⟨g2,k2,?_⟩
  have hl':((ts.length:Int) == (m:Int))=true:=by simp[hl]
  have gr:YI n m ts=ts.all λd=>entD d n m:=by simp[YI,hl]
  rw[gr]
  simp only[Zb,mSeq,mIf,Qf,mOp2,mOp1,mVar,Res.bind,Rb,Rc,pLen,ne_int,hl',Rq,Tj,Rm,QN,QaB]
  simp only[mOp1,Res.bind]at e2
  rw[e2]
  cases (ts.all λd=>entD d n m) <;> simp[Qbo]
 ·refine⟨g,.refl,?_⟩
  have hl':((ts.length:Int) == (m:Int))=false:=by simp;omega
  have gr:YI n m ts=false:=by
   have:(ts.length == m)=false:=by simp[hl]
   simp only[YI,this,Bool.false_and]
  rw[gr]
  simp only[Zb,mSeq,mIf,Qf,mOp2,mOp1,mVar,Res.bind,Rb,Rc,pLen,ne_int,hl',Bool.not_false,RC,Qid,Tj,Rm]
theorem Qdn(rows:List (List D))(g:G)(hz:∀r∈rows,r.length<=SZ)(h:∀r∈rows,∀d∈r,thingD g d):
  ∃g',Keeps [] g g'/\ZT [.tup (rows.map .tup)] g=if QaO rows=true then .ok .non g' else .stuck:=by
 cases rows with
 |nil=>exact⟨g,.refl,by simp[ZT,mDef,ZS,mSeq,mIf,Qf,mOp2,mOp1,mVar,mLit,Res.bind,pLen,eq_int,Qid,QaO]⟩
 |cons r rest =>
  have e0:¬((rest.length:Int)+1=0):=by omega
  have e1:(0:Int)<(rest.length:Int)+1:=by omega
  by_cases hr:r.length=0
  ·refine⟨g,.refl,?_⟩
   simp[ZT,mDef,ZS,mSeq,mIf,Qf,mOp2,mOp1,mVar,mLit,Res.bind,pLen,eq_int,Qid,QaO,hr,e0,e1,QN,mAsg,gSet,pIx,atD,ixD]
  ·have hr':¬((r.length:Int)=0):=by omega
   have hrn:¬r=[]:=λz=>hr (by rw[z];rfl)
   have hd0:QaO (r::rest)=(r::rest).all (YI (r::rest).length r.length):=by simp[QaO,hr]
   have loop:=Qee (t:=gSet 3) (ds:=(r::rest).map D.tup) (σ:=[some (.tup ((r::rest).map .tup)),some (.int (r::rest).length),some (.int r.length),none]) (g:=g) (body:=Zb)
    (λi σ g1=>Keeps [] g g1/\(∃u,σ=[some (.tup ((r::rest).map .tup)),some (.int (r::rest).length),some (.int r.length),u])/\∀x∈(r::rest).take i,YI (r::rest).length r.length x=true)
    (λo=>o=.stuck/\∃x∈r::rest,YI (r::rest).length r.length x=false) ⟨.refl,⟨none,rfl⟩,by simp⟩ (λi d σ g1 hd ⟨k,⟨u,hσ⟩,hg⟩=>by
     rw[UK]at hd
     cases hx:(r::rest)[i]? with
     |none=>rw[hx]at hd;cases hd
     |some ts =>
      rw[hx]at hd
      cases hd
      have hm:ts∈r::rest:=WE hx
      subst hσ
      refine⟨_,rfl,?_⟩
      obtain⟨g2,k2,e2⟩:=QjF (r::rest).length r.length ts (.tup ((r::rest).map .tup)) g1 (hz ts hm) λd hd=>(h ts hm d hd).mono k
      simp only[List.set]
      rw[e2]
      cases ha:YI (r::rest).length r.length ts with
      |true =>
       left
       refine⟨_,g2,by rw[Uc rfl],k.trans k2,⟨_,rfl⟩,λx hx'=>?_⟩
       rw[List.take_succ,hx]at hx'
       rcases Uz.mp hx' with z|z
       ·exact hg x z
       ·have:x=ts:=by simpa using z
        rw[this];exact ha
      |false =>
       right
       rw[Uh Ud]
       exact⟨trivial,rfl,ts,hm,ha⟩)
   have fin:ZS [some (.tup ((r::rest).map .tup)),none,none,none] g=forL ⟨λ_ i=>some ((r::rest).map D.tup)[i]?,((r::rest).map D.tup).length⟩ (gSet 3) Zb (((r::rest).map D.tup).length+1) 0 [some (.tup ((r::rest).map .tup)),some (.int (r::rest).length),some (.int r.length),none] g:=by
    simp[ZS,mSeq,mIf,Qf,mOp2,mOp1,mVar,mLit,Res.bind,pLen,eq_int,e0,QN,mAsg,gSet,pIx,atD,ixD,e1,hr',hrn,mFor,QQ,QaC]
   have ap:ZT [.tup ((r::rest).map .tup)] g=match ZS [some (.tup ((r::rest).map .tup)),none,none,none] g with
    |.nx _ g'=>.ok .non g'
    |.rt d g'=>.ok d g'
    |.raise e _ g'=>.raise e g'
    |_=>.stuck:=rfl
   rw[ap,fin]
   rcases loop with⟨σ',g',h1,k1,_,h2⟩|⟨_,h1,x,hx,hg⟩
   ·refine⟨g',k1,?_⟩
    have:QaO (r::rest)=true:=by
     rw[hd0,Th]
     intro x hx
     exact h2 x (by rw[Um,TW];exact hx)
    rw[Uc this,h1]
   ·refine⟨g,.refl,?_⟩
    have:¬QaO (r::rest)=true:=by
     rw[hd0,Th]
     intro z
     rw[z x hx]at hg;cases hg
    rw[Uh this,h1]
theorem Keeps.seq{g g1:G}(k:Keeps [] g g1){d:D}{p:Bool×List D}(h:QH g d=some p):QH g1 d=some p:=by
 cases d with
 |ref n =>
  unfold QH at h ⊢
  dsimp only at h ⊢
  cases hg:g[n]? with
  |none=>rw[hg]at h;cases h
  |some o=>rw[hg]at h;rw[k.at' n o (by simp) hg];exact h
 |_=>exact h
theorem Qno{g:G}{d:D}{b:Bool}{ds:List D}(h:QH g d=some (b,ds)):∃src,QaC d g=.ok src g/\src.top=ds.length/\∀g1 i,QH g1 d=some (b,ds)->src.at' g1 i=some ds[i]?:=by
 cases d with
 |tup es=>cases h;exact⟨_,rfl,rfl,λ_ _ _=>rfl⟩
 |fl es=>cases h;exact⟨_,rfl,rfl,λ_ _ _=>rfl⟩
 |ref n =>
  unfold QH at h
  dsimp only at h
  cases hg:g[n]? with
  |none=>rw[hg]at h;cases h
  |some o =>
   rw[hg]at h
   cases o with
   |lst es =>
    cases h
    refine⟨_,by unfold QaC;dsimp only;rw[hg],rfl,λg1 i h1=>?_⟩
    unfold QH at h1
    dsimp only at h1 ⊢
    cases hg1:g1[n]? with
    |none=>rw[hg1]at h1;cases h1
    |some o1 =>
     rw[hg1]at h1
     cases o1 with
     |lst es1=>cases h1;rfl
     |_=>cases h1
   |_=>cases h
 |_=>cases h
theorem QjG{src:Src}{ds:List D}{e:ME}{no:Nat}{σ:S3}{g:G}{f:D->D}(ht:src.top=ds.length)(hs:∀g1 i,Keeps [] g g1->src.at' g1 i=some ds[i]?)(he:∀d∈ds,∀g1,Keeps [] g g1->∃g2,e ((List.replicate (no+1) none++σ).set 0 (some d)) g1=.ok (f d) g2/\Keeps [] g1 g2):
  ∃g',Y2 src (gSet 0) Yf e (src.top+1) 0 (List.replicate (no+1) none++σ) g []=.ok (ds.map f) g'/\Keeps [] g g':=by
 obtain⟨xs,σ',g',h1,h2,h3,h4⟩:=Zy (src:=src) (t:=gSet 0) (c:=Yf) (e:=e) (n:=ds.length)
  (λi σ' g1 acc=>acc=(ds.take i).map f/\Keeps [] g g1/\∃u,σ'=(List.replicate (no+1) none++σ).set 0 u) (λi σ' g1 acc hi h=>by
   obtain⟨h1,h2,u,h3⟩:=h
   obtain⟨g2,k1,k2⟩:=he ds[i] (UZ hi) g1 h2
   refine⟨ds[i],_,g1,by rw[hs g1 i h2];simp[hi],rfl,.inl ⟨f ds[i],g2,rfl,?_,?_,h2.trans k2,some ds[i],?_⟩⟩
   ·subst h3;rw[RH];exact k1
   ·rw[h1,U1 hi,UV];rfl
   ·subst h3;rw[RH]) (λσ g1 acc h=>by rw[hs g1 _ h.2.1];simp) (src.top+1) 0 (List.replicate (no+1) none++σ) g [] (by omega) (by omega) ⟨by simp,.refl,none,by simp[T3]⟩
 refine⟨g',?_,h3⟩
 rw[h1,h2,TW]
def rowsOf(g:G)(d:D)(rows:List (List D)):Prop:=∃b ds,QH g d=some (b,ds)/\ds.length=rows.length/\∀(i:Nat) x r,ds[i]?=some x->rows[i]?=some r->∃c,QH g x=some (c,r)
theorem rowsOf.mono{g g1:G}{d:D}{rows:List (List D)}(k:Keeps [] g g1)(h:rowsOf g d rows):rowsOf g1 d rows:=by
 obtain⟨b,ds,h1,h2,h3⟩:=h
 exact⟨b,ds,k.seq h1,h2,λi x r hx hr=>let ⟨c,q⟩:=h3 i x r hx hr;⟨c,k.seq q⟩⟩
theorem Qie{g:G}{d:D}{b:Bool}{ds:List D}(h:QH g d=some (b,ds)):Ym d g=.ok (.tup ds) g:=by
 cases d with
 |tup es=>cases h;rfl
 |fl es=>cases h;rfl
 |ref n =>
  unfold QH at h
  dsimp only at h
  cases hg:g[n]? with
  |none=>rw[hg]at h;cases h
  |some o =>
   rw[hg]at h
   cases o with
   |lst es=>cases h;simp[Ym,hg]
   |_=>cases h
 |_=>cases h
theorem ZF:Str.ofString "table" = ⟨#[116,97,98,108,101]⟩:=by decide +kernel
noncomputable def Qaj(rows:List (List D)):GO:=.ins 11 [(Str.ofString "table",.tup (rows.map .tup))]
theorem QlH(m:Nat)(d:D)(rows:List (List D))(g:G)(hm:g[m]?=some (.ins 11 []))(hr:rowsOf g d rows)(hz:∀r∈rows,r.length<=SZ)(hl:rows.length<=SZ)(h:∀r∈rows,∀d∈r,thingD g d):
  ∃g',Keeps [] g g'/\ZJ [.ref m,d] g=if QaO rows=true then .ok .non (g'.set m (Qaj rows)) else .stuck:=by
 obtain⟨b,ds,h1,h2,h3⟩:=hr
 obtain⟨src,s1,s2,s3⟩:=Qno h1
 have mp:∀x∈ds,∃c r,QH g x=some (c,r):=λx hx=>by
  obtain⟨i,hi,rfl⟩:=List.getElem_of_mem hx
  obtain⟨c,q⟩:=h3 i ds[i] (rows[i]'(by omega)) (by simp[hi]) (by simp[show i<rows.length by omega])
  exact⟨c,_,q⟩
 obtain⟨g1,c1,k1⟩:=QjG (src:=src) (ds:=ds) (e:=mOp1 Ym (mVar 0)) (no:=0) (σ:=[]) (g:=g) (f:=λx=>.tup (((QH g x).map (·.2)).getD [])) s2 (λg1 i k=>s3 g1 i (k.seq h1)) (λx hx g1 k=>by
  obtain⟨c,r,q⟩:=mp x hx
  refine⟨g1,?_,.refl⟩
  simp[mOp1,mVar,Res.bind,Qie (k.seq q),q])
 have em:(ds.map λx=>D.tup (((QH g x).map (·.2)).getD []))=rows.map .tup:=by
  apply List.ext_getElem
  ·simp[h2]
  ·intro i hi hi'
   simp only[Um]at hi hi'
   obtain⟨c,q⟩:=h3 i ds[i] rows[i] (by simp[hi]) (by simp[hi'])
   simp[q]
 rw[em]at c1
 have c1:Y2 src (gSet 0) Yf (mOp1 Ym (mVar 0)) (src.top+1) 0 [none] g []=.ok (rows.map .tup) g1:=c1
 have k2:Keeps [] g (g1++[.lst (rows.map .tup)]):=k1.trans (.push _)
 obtain⟨g3,k3,c3⟩:=Qdn rows (g1++[.lst (rows.map .tup)]) hz λr hr d hd=>(h r hr d hd).mono k2
 refine⟨g3,k2.trans k3,?_⟩
 have hz2:src.top<=SZ:=by omega
 have hm3:=(k2.trans k3).at' m _ (by simp) hm
 simp[ZJ,mDef,Qam,mSeq,mAsg,mOp1,ZO,QQ,mVar,Res.bind,s1,hz2,capt,c1,Ym,gSet,Z7,Qr,Qb,mNil,c3]
 by_cases hg:QaO rows=true
 ·simp[hg,QR,mVar,hm3,putG,Qaj]
 ·simp[hg]
theorem QlI(d:D)(rows:List (List D))(g:G)(hr:rowsOf g d rows)(hz:∀r∈rows,r.length<=SZ)(hl:rows.length<=SZ)(h:∀r∈rows,∀d∈r,thingD g d)(a:MA)(σ:S3)(g0:G)(ha:a σ g0=.ok [d] g):
  ∃g',Keeps [] g g'/\Qc5 11 ZJ a σ g0=(if QaO rows=true then .ok (.ref g.length) g' else .stuck)/\(QaO rows=true->g'[g.length]?=some (Qaj rows)):=by
 have kp:Keeps [] g (g++[.ins 11 []]):=.push _
 obtain⟨g',k',e'⟩:=QlH g.length d rows (g++[.ins 11 []]) (QD _) (hr.mono kp) hz hl λr hr d hd=>(h r hr d hd).mono kp
 by_cases hg:QaO rows=true
 ·rw[Uc hg]at e'
  refine⟨g'.set g.length (Qaj rows),?_,?_,λ_=>?_⟩
  ·refine⟨by rw[UR];exact Ux kp.len k'.len,λn o _ e=>?_⟩
   have hn:n<g.length:=Q0 e
   rw[Ui (by omega)]
   exact(kp.trans k').at' n o (by simp) e
  ·simp[Qc5,ha,Res.bind,e',hg]
  ·rw[UW]
   have:=k'.len
   simp at this
   omega
 ·rw[Uh hg]at e'
  exact⟨g',kp.trans k',by simp[Qc5,ha,Res.bind,e',hg],λz=>absurd z hg⟩
theorem YX{a b:MS}{σ σ':S3}{g g':G}(h:a σ g=.nx σ' g'):mSeq a b σ g=b σ' g':=by unfold mSeq;rw[h]
theorem ZL{a b:MS}{σ:S3}{d:D}{g g':G}(h:a σ g=.rt d g'):mSeq a b σ g=.rt d g':=by unfold mSeq;rw[h]
theorem Qw{i:Nat}{a:ME}{σ:S3}{d:D}{g g':G}(h:a σ g=.ok d g'):mAsg (gSet i) a σ g=.nx (σ.set i (some d)) g':=by unfold mAsg;rw[h];rfl
theorem QfW{c:MT}{a b:MS}{σ:S3}{g g':G}(h:c σ g=.ok true g'):mIf c a b σ g=a σ g':=by unfold mIf;rw[h];rfl
theorem Qef{c:MT}{a b:MS}{σ:S3}{g g':G}(h:c σ g=.ok false g'):mIf c a b σ g=b σ g':=by unfold mIf;rw[h];rfl
theorem Qv{f:MF}{a:MA}{σ:S3}{ds:List D}{g g':G}(h:a σ g=.ok ds g'):Qr f a σ g=f ds g':=by unfold Qr;rw[h];rfl
theorem JM{a:ME}{σ:S3}{d:D}{g g':G}(h:a σ g=.ok d g'):Z7 a σ g=.nx σ g':=by unfold Z7;rw[h]
theorem ZE{a:ME}{σ:S3}{d:D}{g g':G}(h:a σ g=.ok d g'):mRet a σ g=.rt d g':=by unfold mRet;rw[h]
theorem QJ{k n:Nat}{b:MS}{ds:List D}{d:D}{g g':G}(hl:ds.length=k)(h:b (ds.map some++List.replicate n none) g=.rt d g'):mDef k n b ds g=.ok d g':=by unfold mDef;rw[Uc hl,h]
theorem Qnp(ns:List Int)(i:Int)(h:0<ns.length):∃x,atD (ns.map D.int) (i%ns.length)=some (.int x):=by
 have h1:0<=i % (ns.length:Int):=Te _ (by omega)
 have h2:i % (ns.length:Int)<ns.length:=UX _ (by omega)
 have h3:(i % (ns.length:Int)).toNat<ns.length:=by omega
 refine⟨ns[(i % (ns.length:Int)).toNat],?_⟩
 unfold atD ixD
 rw[Um,Uc h1,Uc h2]
 simp[h3]
theorem ix0{a:Nat}{d:D}{g:G}(h:g[a]?=some (.lst [d])):pIx (.ref a) (.int 0) g=.ok d g:=by
 unfold pIx;dsimp only;rw[h];rfl
theorem ixfl{ds:List D}{i:Int}{d:D}{g:G}(h:atD ds i=some d):pIx (.fl ds) (.int i) g=.ok d g:=by
 unfold pIx;dsimp only;rw[h]
theorem Qif(c:Int)(x:D)(a:Nat)(k:Int)(g:G)(ga:g[a]?=some (.lst [.int k]))(hk:0<=k)(hk2:k<1000000001):∃m,0<=m/\m<1999999973/\(mSeq (mAsg (gSet 3) (mOp2 pMod (mOp2 pMul (mOp2 pAdd (mOp2 pAdd (mOp2 pMod (mVar 2) (mLit (.int 2147483647))) (mOp2 pMul (mOp2 pMul (mOp2 pIx (mVar 1) (mLit (.int 0))) (mOp2 pIx (mVar 1) (mLit (.int 0)))) (mLit (.int 7919)))) (mLit (.int 11))) (mLit (.int 48271))) (mLit (.int 2147483647))))
      (mRet (mOp2 pMod (mOp2 pMul (mVar 3) (mVar 3)) (mLit (.int 1999999973))))) [some x,some (.ref a),some (.int c),none] g=.rt (.int m) g:=by
  have c1:cM k:=⟨by omega,by omega⟩
  have c2:cM 7919:=⟨by decide,by decide⟩
  have c3:cM 48271:=⟨by decide,by decide⟩
  have hr:=UX ((c%2147483647+k*k*7919+11)*48271) (show(0:Int)<2147483647 by decide)
  have hr0:=Te ((c%2147483647+k*k*7919+11)*48271) (show(2147483647:Int)≠0 by decide)
  have c4:cM (((c%2147483647+k*k*7919+11)*48271) % 2147483647):=⟨by omega,by omega⟩
  refine⟨((c%2147483647+k*k*7919+11)*48271) % 2147483647*(((c%2147483647+k*k*7919+11)*48271) % 2147483647) % 1999999973,Te _ (by decide),UX _ (by decide),?_⟩
  have e1:(mOp2 pMod (mOp2 pMul (mOp2 pAdd (mOp2 pAdd (mOp2 pMod (mVar 2) (mLit (.int 2147483647))) (mOp2 pMul (mOp2 pMul (mOp2 pIx (mVar 1) (mLit (.int 0))) (mOp2 pIx (mVar 1) (mLit (.int 0)))) (mLit (.int 7919)))) (mLit (.int 11))) (mLit (.int 48271))) (mLit (.int 2147483647))) [some x,some (.ref a),some (.int c),none] g=.ok (.int (((c%2147483647+k*k*7919+11)*48271) % 2147483647)) g:=by
    simp[mOp2,mVar,mLit,Res.bind,ix0 ga,pMod,pMul,pAdd,c1,c2,c3]
  rw[YX (Qw e1)]
  generalize ((c%2147483647+k*k*7919+11)*48271) % 2147483647=r at c4 ⊢
  refine ZE ?_
  simp[mOp2,mVar,mLit,Res.bind,pMod,pMul,c4]
theorem Qdo(ns:List Int)(a:Nat)(k:Int)(g:G)(hg:g[a]?=some (.lst [.int k]))(hk:0<=k)(hk2:k<1000000000):
  ∃m,0<=m/\m<1999999973/\YV [.fl (ns.map .int),.ref a] g=.ok (.int m) (g.set a (.lst [.int (k+1)])):=by
 have s1:Jt (mVar 1) (mLit (.int 0)) (mOp2 pAdd (mOp2 pIx (mVar 1) (mLit (.int 0))) (mLit (.int 1))) [some (.fl (ns.map .int)),some (.ref a),none,none] g=.nx [some (.fl (ns.map .int)),some (.ref a),none,none] (g.set a (.lst [.int (k+1)])):=by
  simp[Jt,mOp2,mVar,mLit,Res.bind,ix0 hg,pAdd,hg,ixD]
 have ga:(g.set a (.lst [.int (k+1)]))[a]?=some (.lst [.int (k+1)]):=Q3 hg
 generalize g.set a (.lst [.int (k+1)])=g1 at s1 ga ⊢
 have s3:∃c,mAsg (gSet 2) (mIfE (Qf (mOp2 pGt (mOp1 pLen (mVar 0)) (mLit (.int 0)))) (mOp2 pIx (mVar 0) (mOp2 pMod (mOp2 pIx (mVar 1) (mLit (.int 0))) (mOp1 pLen (mVar 0)))) (mLit (.int 0))) [some (.fl (ns.map .int)),some (.ref a),none,none] g1=.nx [some (.fl (ns.map .int)),some (.ref a),some (.int c),none] g1:=by
  by_cases hl:0<ns.length
  ·obtain⟨x,hx⟩:=Qnp ns (k+1) hl
   have hl':(0:Int)<(ns.length:Int):=by omega
   refine⟨x,Qw ?_⟩
   have t1:Qf (mOp2 pGt (mOp1 pLen (mVar 0)) (mLit (.int 0))) [some (.fl (ns.map .int)),some (.ref a),none,none] g1=.ok true g1:=by simp[Qf,mOp2,mOp1,mVar,mLit,Res.bind,pLen,pGt,pCmp,hl]
   unfold mIfE
   rw[t1,Res.bind_ok,Uc rfl]
   simp only[mOp2,mOp1,mVar,mLit,Res.bind,Rb,Rc,ix0 ga,pLen,pMod,Um,hl',RC,ixfl hx]
  ·cases ns with
   |nil=>exact⟨0,rfl⟩
   |cons x r=>simp at hl
 obtain⟨c,s3⟩:=s3
 obtain⟨m,m1,m2,m3⟩:=Qif c (.fl (ns.map .int)) a (k+1) g1 ga (by omega) (by omega)
 refine⟨m,m1,m2,QJ rfl ?_⟩
 show Qdm [some (.fl (ns.map .int)),some (.ref a),none,none] g=_
 unfold Qdm
 rw[YX s1,YX s3,m3]
def entOk(d:D)(n m:Nat):Prop:=d=.non\/∃(i j:Int)(w:Str),d=.tup [.int i,.str w,.int j]/\0<=i/\i<m/\0<=j/\j<n/\(w=⟨#[108]⟩\/w=⟨#[114]⟩)
theorem entOk.ent{d:D}{n m:Nat}(h:entOk d n m):entD d n m=true:=by
 rcases h with rfl|⟨i,j,w,rfl,h1,h2,h3,h4,h5⟩
 ·rfl
 ·rcases h5 with rfl|rfl <;> simp[entD,Qan,wayD,h1,h2,h3,h4]
theorem entOk.thing{d:D}{n m:Nat}{g:G}(h:entOk d n m):thingD g d:=by
 rcases h with h|⟨i,j,w,h,_⟩
 ·exact .inl h
 ·exact .inr ⟨i,j,w,h⟩
theorem s_lr:Str.ofString "lr" = ⟨#[108,114]⟩:=by decide +kernel
theorem Qnq(i:Int)(g:G):∃w,pIx (.str "lr") (.int (i%2)) g=.ok (.str w) g/\(w=⟨#[108]⟩\/w=⟨#[114]⟩):=by
 rw[s_lr]
 rcases(by omega:i%2=0\/i%2=1) with e|e
 ·rw[e];exact⟨_,rfl,.inl rfl⟩
 ·rw[e];exact⟨_,rfl,.inr rfl⟩
theorem Qcb{n:Nat}{ds:List D}{y:D}{σ:S3}{g:G}{i j:Nat}(hi:σ[i]?=some (some (.ref n)))(hj:σ[j]?=some (some y))(h:g[n]?=some (.lst ds))(hz:ds.length<SZ):
  Z7 (ZP (mVar i) (mVar j)) σ g=.nx σ (g.set n (.lst (ds++[y]))):=by
 refine JM (d:=.non) ?_
 simp[ZP,mVar,hi,hj,Res.bind,h,hz]
theorem Qig(ns:List Int)(a l t:Nat)(k:Int)(n m:Nat)(x5 x7 x8 x9:Option D)(row:List D)(g:G)(hn:0<n)(hm:0<m)(ga:g[a]?=some (.lst [.int k]))(gl:g[l]?=some (.lst row))(hal:a≠l)(hk:0<=k)(hk2:k<1000000000)(hz:row.length<SZ):
  ∃d x8',entOk d n m/\Zx [some (.fl (ns.map .int)),some (.ref a),some (.int n),some (.int m),some (.ref t),x5,some (.ref l),x7,x8,x9] g=.nx [some (.fl (ns.map .int)),some (.ref a),some (.int n),some (.int m),some (.ref t),x5,some (.ref l),x7,x8',some d] ((g.set a (.lst [.int (k+1)])).set l (.lst (row++[d]))):=by
 obtain⟨mm,m1,m2,e⟩:=Qdo ns a k g ga hk hk2
 have gl1:(g.set a (.lst [.int (k+1)]))[l]?=some (.lst row):=by rw[Ui hal];exact gl
 generalize g.set a (.lst [.int (k+1)])=g1 at e gl1 ⊢
 obtain⟨w,hw,ww⟩:=Qnq (mm/100) g1
 have hm':(0:Int)<m:=by omega
 have hn':(0:Int)<n:=by omega
 have s1:mAsg (gSet 8) (Qr YV (Qb (mVar 0) (Qb (mVar 1) mNil))) [some (.fl (ns.map .int)),some (.ref a),some (.int n),some (.int m),some (.ref t),x5,some (.ref l),x7,x8,x9] g=.nx [some (.fl (ns.map .int)),some (.ref a),some (.int n),some (.int m),some (.ref t),x5,some (.ref l),x7,some (.int mm),x9] g1 :=
  Qw (by rw[Qv (ds:=[.fl (ns.map .int),.ref a]) (g':=g) rfl];exact e)
 have v2:(mOpA pTup (Qb (mOp2 pMod (mOp2 Z8 (mVar 8) (mLit (.int 9))) (mVar 3)) (Qb (mOp2 pIx (mLit (.str "lr")) (mOp2 pMod (mOp2 Z8 (mVar 8) (mLit (.int 100))) (mLit (.int 2)))) (Qb (mOp2 pMod (mOp2 Z8 (mVar 8) (mLit (.int 300))) (mVar 2)) mNil)))) [some (.fl (ns.map .int)),some (.ref a),some (.int n),some (.int m),some (.ref t),x5,some (.ref l),x7,some (.int mm),x9] g1=.ok (.tup [.int (mm/9%m),.str w,.int (mm/300%n)]) g1:=by
  simp[mOpA,Qb,mNil,mOp2,mVar,mLit,Res.bind,Z8,pMod,hm',hn',hw,pTup,SZ,hm,hn]
 have s2:mAsg (gSet 9) (mOpA pTup (Qb (mOp2 pMod (mOp2 Z8 (mVar 8) (mLit (.int 9))) (mVar 3)) (Qb (mOp2 pIx (mLit (.str "lr")) (mOp2 pMod (mOp2 Z8 (mVar 8) (mLit (.int 100))) (mLit (.int 2)))) (Qb (mOp2 pMod (mOp2 Z8 (mVar 8) (mLit (.int 300))) (mVar 2)) mNil)))) [some (.fl (ns.map .int)),some (.ref a),some (.int n),some (.int m),some (.ref t),x5,some (.ref l),x7,some (.int mm),x9] g1=.nx [some (.fl (ns.map .int)),some (.ref a),some (.int n),some (.int m),some (.ref t),x5,some (.ref l),x7,some (.int mm),some (.tup [.int (mm/9%m),.str w,.int (mm/300%n)])] g1:=Qw v2
 have t3:Qf (mOp2 pEq (mOp2 pMod (mVar 8) (mLit (.int 9))) (mLit (.int 0))) [some (.fl (ns.map .int)),some (.ref a),some (.int n),some (.int m),some (.ref t),x5,some (.ref l),x7,some (.int mm),some (.tup [.int (mm/9%m),.str w,.int (mm/300%n)])] g1=.ok (mm%9 == 0) g1:=by
  simp[Qf,mOp2,mVar,mLit,Res.bind,pMod,eq_int]
 unfold Zx
 by_cases h9:mm%9=0
 ·refine⟨.non,some (.int mm),.inl rfl,?_⟩
  rw[YX s1,YX s2,YX (σ':=[some (.fl (ns.map .int)),some (.ref a),some (.int n),some (.int m),some (.ref t),x5,some (.ref l),x7,some (.int mm),some .non]) (g':=g1) ?_]
  ·exact Qcb rfl rfl gl1 hz
  ·rw[QfW (g':=g1) (t3.trans (by simp[h9]))];rfl
 ·refine⟨.tup [.int (mm/9%m),.str w,.int (mm/300%n)],some (.int mm),.inr ⟨_,_,w,rfl,Te _ (by omega),UX _ hm',Te _ (by omega),UX _ hn',ww⟩,?_⟩
  rw[YX s1,YX s2,YX (σ':=[some (.fl (ns.map .int)),some (.ref a),some (.int n),some (.int m),some (.ref t),x5,some (.ref l),x7,some (.int mm),some (.tup [.int (mm/9%m),.str w,.int (mm/300%n)])]) (g':=g1) ?_]
  ·exact Qcb rfl rfl gl1 hz
  ·rw[Qef (g':=g1) (t3.trans (by simp[h9]))];rfl
theorem JN{n:Nat}(h:n<=1000):n<SZ:=Nat.lt_of_le_of_lt h (by decide)
theorem QaP{n:Nat}(h:n<=1000):inR (n:Int):=by
 have:(n:Int)<=1000:=by exact_mod_cast h
 constructor <;> omega
theorem JO{a:ME}{n:Nat}{σ:S3}{g g':G}(h:a σ g=.ok (.int n) g')(hr:inR (n:Int)):Zs a σ g=.ok (QI 0 n) g':=by
 unfold Zs;rw[h,Res.bind_ok];dsimp only;rw[Uc hr,T0]
theorem YJ{it:MI}{t:MG}{body:MS}{src:Src}{σ:S3}{g g':G}(h:it σ g=.ok src g'):mFor it t body σ g=forL src t body (src.top+1) 0 σ g':=by
 unfold mFor;rw[h]
theorem QjH(ns:List Int)(a l t:Nat)(k:Int)(n m:Nat)(x5 x7 x8 x9:Option D)(g:G)(hn:0<n)(hm:0<m)(hm8:m<=8)(ga:g[a]?=some (.lst [.int k]))(gl:g[l]?=some (.lst []))(hal:a≠l)(hk:0<=k)(hk2:k+m<1000000000):
  ∃row y7 y8 y9 g',mFor (Zs (mVar 3)) (gSet 7) Zx [some (.fl (ns.map .int)),some (.ref a),some (.int n),some (.int m),some (.ref t),x5,some (.ref l),x7,x8,x9] g=.nx [some (.fl (ns.map .int)),some (.ref a),some (.int n),some (.int m),some (.ref t),x5,some (.ref l),y7,y8,y9] g' /\
   row.length=m/\(∀d∈row,entOk d n m)/\Keeps [a,l] g g'/\g'[a]?=some (.lst [.int (k+m)])/\g'[l]?=some (.lst row):=by
 have hr:inR (m:Int):=QaP (by omega)
 have hf:mFor (Zs (mVar 3)) (gSet 7) Zx [some (.fl (ns.map .int)),some (.ref a),some (.int n),some (.int m),some (.ref t),x5,some (.ref l),x7,x8,x9] g=forL (QI 0 m) (gSet 7) Zx (m+1) 0 [some (.fl (ns.map .int)),some (.ref a),some (.int n),some (.int m),some (.ref t),x5,some (.ref l),x7,x8,x9] g:=YJ (JO rfl hr)
 rw[hf]
 obtain⟨σ',g',e,row,y7,y8,y9,h1,h2,h3,h4,h5,h6⟩:=JL (t:=gSet 7) (body:=Zx) (lo:=0) (n:=m) (σ:=[some (.fl (ns.map .int)),some (.ref a),some (.int n),some (.int m),some (.ref t),x5,some (.ref l),x7,x8,x9]) (g:=g)
  (λi σ g1=>∃row y7 y8 y9,σ=[some (.fl (ns.map .int)),some (.ref a),some (.int n),some (.int m),some (.ref t),x5,some (.ref l),y7,y8,y9]/\row.length=i/\(∀d∈row,entOk d n m)/\Keeps [a,l] g g1/\g1[a]?=some (.lst [.int (k+i)])/\g1[l]?=some (.lst row))
  ⟨[],x7,x8,x9,rfl,rfl,by simp,.refl,by simpa using ga,gl⟩ (λi σ g1 hi ⟨row,y7,y8,y9,h1,h2,h3,h4,h5,h6⟩=>by
   subst h1
   obtain⟨d,x8',hd,e⟩:=Qig ns a l t (k+i) n m x5 (some (.int (0+i))) y8 y9 row g1 hn hm h5 h6 hal (by omega) (by omega) (JN (by omega))
   refine⟨_,_,_,rfl,e,row++[d],_,x8',_,rfl,by simp[h2],?_,?_,?_,?_⟩
   ·intro x hx
    rcases Uz.mp hx with z|z
    ·exact h3 x z
    ·rw[Uf.mp z];exact hd
   ·exact h4.trans (((Keeps.set a _).mono (by simp)).trans ((Keeps.set l _).mono (by simp)))
   ·rw[Ui (Ne.symm hal),Q3 h5]
    simp;omega
   ·refine Q3 (o:=.lst row) ?_
    rw[Ui hal];exact h6)
 exact⟨row,y7,y8,y9,g',by rw[e,h1],h2,h3,h4,h5,h6⟩
theorem om1{a b c:Nat}(h1:a<b)(h2:b<c):a≠c:=by omega
theorem om2{k x:Int}(h1:0<=k)(h2:0<=x):0<=k+x:=by omega
theorem om3{k x:Int}{m:Nat}(h1:k<900000000)(h2:x<=96)(h3:m<=8):k+x+m<1000000000:=by omega
theorem om7{a b c:Nat}{ds:List D}(h2:ds.length=a)(hi:a<b)(h3:b<=12):ds.length<=1000:=by omega
def tabOf(N:Nat)(g:G)(t:Nat)(rows:List (List D)):Prop:=N<=t/\∃ds,g[t]?=some (.lst ds)/\ds.length=rows.length/\∀(i:Nat) x r,ds[i]?=some x->rows[i]?=some r->∃n,x=.ref n/\N<=n/\n≠t/\g[n]?=some (.lst r)
theorem tabOf.rows{N:Nat}{g:G}{t:Nat}{rows:List (List D)}(h:tabOf N g t rows):rowsOf g (.ref t) rows:=by
 obtain⟨_,ds,h1,h2,h3⟩:=h
 refine⟨true,ds,by simp[QH,h1],h2,λi x r hx hr=>?_⟩
 obtain⟨n,rfl,_,_,h4⟩:=h3 i x r hx hr
 exact⟨true,by simp[QH,h4]⟩
theorem tabOf.mono{N:Nat}{S:List Nat}{g g1:G}{t:Nat}{rows:List (List D)}(h:tabOf N g t rows)(k:Keeps S g g1)(hS:∀n∈S,n<N):tabOf N g1 t rows:=by
 obtain⟨h0,ds,h1,h2,h3⟩:=h
 refine⟨h0,ds,k.at' t _ (λz=>by have:=hS t z;omega) h1,h2,λi x r hx hr=>?_⟩
 obtain⟨n,h4,h5,h6,h7⟩:=h3 i x r hx hr
 exact⟨n,h4,h5,h6,k.at' n _ (λz=>by have:=hS n z;omega) h7⟩
theorem QjI(ns:List Int)(a:Nat)(k:Int)(n m:Nat)(g:G)(hn:0<n)(hm:0<m)(hn12:n<=12)(hm8:m<=8)(ga:g[a]?=some (.lst [.int k]))(hk:0<=k)(hk2:k<900000000):
  ∃rows g',Qca [.fl (ns.map .int),.ref a,.int n,.int m] g=.ok (.ref g.length) g'/\Keeps [a] g g'/\g'[a]?=some (.lst [.int (k+n*m)])/\tabOf g.length g' g.length rows/\rows.length=n/\(∀r∈rows,r.length=m)/\∀r∈rows,∀d∈r,entOk d n m:=by
 have hr:inR (n:Int):=QaP (by omega)
 have hal:a<g.length:=Q0 ga
 have hz0:([]:List D).length<=SZ:=by simp
 have s1:mAsg (gSet 4) (mOpA newL mNil) [some (.fl (ns.map .int)),some (.ref a),some (.int n),some (.int m),none,none,none,none,none,none] g=.nx [some (.fl (ns.map .int)),some (.ref a),some (.int n),some (.int m),some (.ref g.length),none,none,none,none,none] (g++[.lst []]) :=
  Qw (by simp[mOpA,mNil,Res.bind,newL])
 have kp:Keeps [a] g (g++[.lst []]):=.push _
 have ga1:(g++[.lst []])[a]?=some (.lst [.int k]):=(Keeps.push (S:=[]) (.lst [])).at' a _ (by simp) ga
 have gt1:(g++[.lst []])[g.length]?=some (.lst []):=QD _
 have hl1:g.length<(g++[GO.lst []]).length:=by simp
 generalize g++[.lst []]=g1 at s1 kp ga1 gt1 hl1
 obtain⟨σ',g',e,ds,rows,y5,y6,y7,y8,y9,h1,h2,h3,h4,h5,h6,h7,h8,h9⟩:=JL (t:=gSet 5) (body:=YW) (lo:=0) (n:=n) (σ:=[some (.fl (ns.map .int)),some (.ref a),some (.int n),some (.int m),some (.ref g.length),none,none,none,none,none]) (g:=g1)
  (λi σ g2=>∃ds rows y5 y6 y7 y8 y9,σ=[some (.fl (ns.map .int)),some (.ref a),some (.int n),some (.int m),some (.ref g.length),y5,y6,y7,y8,y9]/\ds.length=i/\rows.length=i/\Keeps [a,g.length] g1 g2/\g2[a]?=some (.lst [.int (k+i*m)])/\g2[g.length]?=some (.lst ds) /\
   (∀(i:Nat) x r,ds[i]?=some x->rows[i]?=some r->∃n,x=.ref n/\g.length<n/\g2[n]?=some (.lst r))/\(∀r∈rows,r.length=m)/\∀r∈rows,∀d∈r,entOk d n m)
  ⟨[],[],none,none,none,none,none,rfl,rfl,rfl,.refl,by simpa using ga1,gt1,by simp,by simp,by simp⟩ (λi σ g2 hi ⟨ds,rows,y5,y6,y7,y8,y9,h1,h2,h3,h4,h5,h6,h7,h8,h9⟩=>by
   subst h1
   have hl2:g.length<g2.length:=Q0 h6
   have q1:mAsg (gSet 6) (mOpA newL mNil) [some (.fl (ns.map .int)),some (.ref a),some (.int n),some (.int m),some (.ref g.length),some (.int (0+i)),y6,y7,y8,y9] g2=.nx [some (.fl (ns.map .int)),some (.ref a),some (.int n),some (.int m),some (.ref g.length),some (.int (0+i)),some (.ref g2.length),y7,y8,y9] (g2++[.lst []]) :=
    Qw (by simp[mOpA,mNil,Res.bind,newL])
   have k3:Keeps [] g2 (g2++[.lst []]):=.push _
   have gl3:(g2++[.lst []])[g2.length]?=some (.lst []):=QD _
   generalize g2++[.lst []]=g3 at q1 k3 gl3
   have him:(i:Int)*m<=96:=by
    have:i*m<=12*8:=Nat.mul_le_mul (by omega) hm8
    exact_mod_cast this
   have him0:(0:Int)<=(i:Int)*m:=Int.mul_nonneg (by omega) (by omega)
   obtain⟨row,z7,z8,z9,g4,e4,r1,r2,r3,r4,r5⟩:=QjH ns a g2.length g.length (k+i*m) n m (some (.int (0+i))) y7 y8 y9 g3 hn hm hm8 (k3.at' a _ (by simp) h5) gl3 (om1 hal hl2) (om2 hk him0) (om3 hk2 him hm8)
   have gt4:g4[g.length]?=some (.lst ds):=r3.at' _ _ (by simp;omega) (k3.at' _ _ (by simp) h6)
   refine⟨_,[some (.fl (ns.map .int)),some (.ref a),some (.int n),some (.int m),some (.ref g.length),some (.int (0+i)),some (.ref g2.length),z7,z8,z9],g4.set g.length (.lst (ds++[.ref g2.length])),rfl,?_,ds++[.ref g2.length],rows++[row],_,_,z7,z8,z9,rfl,by simp[h2],by simp[h3],?_,?_,?_,?_,?_,?_⟩
   ·show YW [some (.fl (ns.map .int)),some (.ref a),some (.int n),some (.int m),some (.ref g.length),some (.int (0+i)),y6,y7,y8,y9] g2=_
    unfold YW
    rw[YX q1,YX e4]
    exact Qcb rfl rfl gt4 (JN (om7 (c:=0) h2 hi hn12))
   ·refine⟨by rw[UR];exact Ux h4.len (Ux k3.len r3.len),λb o hb eb=>?_⟩
    have hb':b≠a/\b≠g.length:=by simpa using hb
    have e2:=h4.at' b o hb eb
    have:b<g2.length:=Q0 e2
    rw[Ui (Ne.symm hb'.2)]
    exact r3.at' b o (by simp;omega) (k3.at' b o (by simp) e2)
   ·rw[Ui (by omega),r4]
    have:k+(i:Int)*m+m=k+((i+1:Nat):Int)*m:=by
     rw[Int.natCast_add,Int.add_mul];simp;omega
    rw[this]
   ·exact Q3 gt4
   ·intro j x r hx hr'
    have key:∀b o,g.length<b->g2[b]?=some o->(g4.set g.length (.lst (ds++[.ref g2.length])))[b]?=some o:=λb o hb eb=>by
     have:b<g2.length:=Q0 eb
     rw[Ui (by omega)]
     exact r3.at' b o (by simp;omega) (k3.at' b o (by simp) eb)
    by_cases hj:j<i
    ·rw[Uy (by omega)]at hx hr'
     obtain⟨b,hb1,hb2,hb3⟩:=h7 j x r hx hr'
     exact⟨b,hb1,hb2,key b _ hb2 hb3⟩
    ·have hji:j=i:=by
      have:=(Ue.mp hx).1
      simp at this;omega
     subst hji
     rw[UJ (by omega),h2]at hx
     rw[UJ (by omega),h3]at hr'
     simp at hx hr'
     subst hx hr'
     exact⟨g2.length,rfl,hl2,by rw[Ui (by omega)];exact r5⟩
   ·intro r hr'
    rcases Uz.mp hr' with z|z
    ·exact h8 r z
    ·rw[Uf.mp z];exact r1
   ·intro r hr'
    rcases Uz.mp hr' with z|z
    ·exact h9 r z
    ·rw[Uf.mp z];exact r2)
 refine⟨rows,g',?_,?_,h5,⟨Ug _,ds,h6,by omega,λi x r hx hr'=>?_⟩,h3,h8,h9⟩
 ·refine QJ rfl ?_
  show Qb9 [some (.fl (ns.map .int)),some (.ref a),some (.int n),some (.int m),none,none,none,none,none,none] g=_
  unfold Qb9
  rw[YX s1,YX (σ':=σ') (g':=g') ?_]
  ·subst h1;rfl
  ·rw[<-e]
   exact YJ (JO rfl hr)
 ·refine⟨Ux kp.len h4.len,λb o hb eb=>?_⟩
  have:b<g.length:=Q0 eb
  exact h4.at' b o (by simp at hb ⊢;omega) (kp.at' b o hb eb)
 ·obtain⟨b,hb1,hb2,hb3⟩:=h7 i x r hx hr'
  exact⟨b,hb1,by omega,by omega,hb3⟩
theorem Qg{a b:MS}{σ:S3}{g:G}{R:Out}(σ':S3)(g':G)(h:a σ g=.nx σ' g')(h2:b σ' g'=R):mSeq a b σ g=R:=(YX h).trans h2
theorem ift{c:MT}{a b:MS}{σ:S3}{g:G}{R:Out}(g':G)(h:c σ g=.ok true g')(h2:a σ g'=R):mIf c a b σ g=R:=(QfW h).trans h2
theorem iff'{c:MT}{a b:MS}{σ:S3}{g:G}{R:Out}(g':G)(h:c σ g=.ok false g')(h2:b σ g'=R):mIf c a b σ g=R:=(Qef h).trans h2
theorem eq_str(s t:Str)(g:G):pEq (.str s) (.str t) g=.ok (.bl (s == t)) g:=rfl
theorem modP{i j:Int}{g:G}(h:0<j):pMod (.int i) (.int j) g=.ok (.int (i%j)) g:=Uc h
theorem divP{i j:Int}{g:G}(h:0<j)(h2:j<=1000000):Z8 (.int i) (.int j) g=.ok (.int (i/j)) g:=Uc ⟨h,by omega⟩
theorem Qeg{k n:Nat}{b:MS}{ds:List D}{σ:S3}{g g':G}(hl:ds.length=k)(h:b (ds.map some++List.replicate n none) g=.nx σ g'):mDef k n b ds g=.ok .non g':=by unfold mDef;rw[Uc hl,h]
theorem Qn{f:D->D->G->Res D}{a b:ME}{σ:S3}{x y:D}{g g1 g2:G}{R:Res D}(ha:a σ g=.ok x g1)(hb:b σ g1=.ok y g2)(h:f x y g2=R):mOp2 f a b σ g=R:=by unfold mOp2;rw[ha,Res.bind_ok,hb,Res.bind_ok,h]
theorem ZW{f:D->G->Res D}{a:ME}{σ:S3}{x:D}{g g1:G}{R:Res D}(ha:a σ g=.ok x g1)(h:f x g1=R):mOp1 f a σ g=R:=by unfold mOp1;rw[ha,Res.bind_ok,h]
theorem QB{a:ME}{σ:S3}{b:Bool}{g g1:G}(ha:a σ g=.ok (.bl b) g1):Qf a σ g=.ok b g1:=by unfold Qf;rw[ha,Res.bind_ok]
theorem Qz{a:ME}{r:MA}{x:D}{xs:List D}{σ:S3}{g g1 g2:G}(h:a σ g=.ok x g1)(h2:r σ g1=.ok xs g2):Qb a r σ g=.ok (x::xs) g2:=by
 unfold Qb;rw[h,Res.bind_ok,h2];rfl
theorem Qcc{n:Nat}{ds:List D}{y:D}{σ:S3}{g:G}{o e:ME}(ho:o σ g=.ok (.ref n) g)(h:g[n]?=some (.lst ds))(he:e σ g=.ok y g)(hz:ds.length<SZ):
  Z7 (ZP o e) σ g=.nx σ (g.set n (.lst (ds++[y]))):=by
 refine JM (d:=.non) ?_
 simp[ZP,ho,he,Res.bind,h,hz]
theorem entOk.good{rows:List (List D)}{n m:Nat}(hn:0<n)(hm:0<m)(h1:rows.length=n)(h2:∀r∈rows,r.length=m)(h3:∀r∈rows,∀d∈r,entOk d n m):QaO rows=true:=by
 cases rows with
 |nil=>simp at h1;omega
 |cons q rest =>
  have hq:=h2 q (Ur ..)
  unfold QaO
  rw[UD,Th]
  refine⟨by simp;intro z;rw[z]at hq;simp at hq;omega,λx hx=>?_⟩
  unfold YI
  rw[UD,Th]
  exact⟨by simp[h2 x hx,hq],λd hd=>by rw[h1,hq];exact(h3 x hx d hd).ent⟩
theorem JP{it:MI}{n:Nat}{cap:List Nat}{t:MG}{c:MT}{e:ME}{σ:S3}{g g1 g2:G}{src:Src}{ds:List D}{σ0:S3}(h1:it σ g=.ok src g1)(hz:src.top<=SZ)(hc:capt n cap σ=σ0)(h2:Y2 src t c e (src.top+1) 0 σ0 g1 []=.ok ds g2):ZO it n cap t c e σ g=.ok (.ref g2.length) (g2++[.lst ds]):=by
 simp only[ZO,h1,hz,hc,h2,RC]
theorem QgG{M:Nat}{rows:List (List D)}{σ:S3}{g:G}{i:Nat}(hv:σ[i]?=some (some (.ref M)))(h:g[M]?=some (Qaj rows)):QP [11,12] "table" (mVar i) σ g=.ok (.tup (rows.map .tup)) g:=by
 simp[QP,mOp1,mVar,hv,Res.bind,h,Qaj]
theorem QlJ{g:G}{d1 d2:D}{b1 b2:Bool}{xs ys:List D}(h1:QH g d1=some (b1,xs))(h2:QH g d2=some (b2,ys))(hl:xs.length=ys.length):
  ∃src,Qfz d1 d2 g=.ok src g/\src.top=xs.length/\∀g1,QH g1 d1=some (b1,xs)->QH g1 d2=some (b2,ys)->src.at' g1 xs.length=some none/\∀(i:Nat) x y,xs[i]?=some x->ys[i]?=some y->src.at' g1 i=some (some (.tup [x,y])):=by
 unfold Qfz
 rw[h1,h2]
 refine⟨_,rfl,by simp[hl],λg1 q1 q2=>⟨?_,λi x y hx hy=>?_⟩⟩
 ·dsimp only;rw[q1,q2];dsimp only;rw[TJ (Ug _)]
 ·dsimp only;rw[q1,q2];dsimp only;rw[hx,hy]
theorem Qeh{a:MT}{σ:S3}{g g1:G}(h1:a σ g=.ok true g1):QaB a σ g=.ok false g1:=by unfold QaB;rw[h1];rfl
noncomputable def srcL(a:Nat)(n:Nat):Src:=⟨λg i=>(match g[a]? with|some (.lst es)=>some es[i]? | _=>none),n⟩
noncomputable def rS:Str:=⟨#[114]⟩
noncomputable def lS:Str:=⟨#[108]⟩
theorem QlK{a b:MT}{σ:S3}{g g1 g2:G}(h1:a σ g=.ok false g1)(h2:b σ g1=.ok false g2):mOrT a b σ g=.ok false g2:=by
 unfold mOrT;rw[h1,Res.bind_ok,Uh Ud,h2]
theorem JQ{t p:Nat}{ds:List D}{d:D}{g:G}(h:g[t]?=some (.lst ds))(hp:ds[p]?=some d):pIx (.ref t) (.int p) g=.ok d g:=by
 have hl:p<ds.length:=(Ue.mp hp).1
 unfold pIx;dsimp only;rw[h];dsimp only
 unfold atD ixD
 rw[Uc (by omega),Uc (by omega)]
 simp[hp]
theorem Qnr{t:Nat}{i:Int}{ds:List D}{d:D}{g:G}(h:g[t]?=some (.lst ds))(h0:0<=i)(hp:ds[i.toNat]?=some d):pIx (.ref t) (.int i) g=.ok d g:=by
 have e:((i.toNat:Nat):Int)=i:=by omega
 rw[<-e];exact JQ h hp
theorem QfX{n k:Nat}{ds:List D}{y:D}{σ:S3}{g g1:G}{o i v:ME}(hv:v σ g=.ok y g1)(ho:o σ g1=.ok (.ref n) g1)(hi:i σ g1=.ok (.int k) g1)(h:g1[n]?=some (.lst ds))(hk:k<ds.length):
  Jt o i v σ g=.nx σ (g1.set n (.lst (ds.set k y))):=by
 unfold Jt
 rw[hv];dsimp only
 rw[ho];dsimp only
 rw[hi];dsimp only
 rw[h];dsimp only
 have:ixD ds.length (k:Int)=some k:=by unfold ixD;rw[Uc (by omega),Uc (by omega)];simp
 rw[this]
theorem Qcd{g:G}{l:Nat}{ds:List D}(h:g[l]?=some (.lst ds)):QH g (.ref l)=some (true,ds):=by unfold QH;dsimp only;rw[h]
theorem ZG:Str.ofString "state" = ⟨#[115,116,97,116,101]⟩:=by decide +kernel
theorem ZH:Str.ofString "place" = ⟨#[112,108,97,99,101]⟩:=by decide +kernel
theorem Qy:Str.ofString "left_marks" = ⟨#[108,101,102,116,95,109,97,114,107,115]⟩:=by decide +kernel
theorem Qt:Str.ofString "right_marks" = ⟨#[114,105,103,104,116,95,109,97,114,107,115]⟩:=by decide +kernel
theorem Qei:Str.ofString "is_on_mark" = ⟨#[105,115,95,111,110,95,109,97,114,107]⟩:=by decide +kernel
theorem QlL:Str.ofString "entry" = ⟨#[101,110,116,114,121]⟩:=by decide +kernel
theorem QlM:Str.ofString "write" = ⟨#[119,114,105,116,101]⟩:=by decide +kernel
theorem QgH:Str.ofString "go_right" = ⟨#[103,111,95,114,105,103,104,116]⟩:=by decide +kernel
theorem Qih:Str.ofString "go_left" = ⟨#[103,111,95,108,101,102,116]⟩:=by decide +kernel
theorem Qii:Str.ofString "stepped" = ⟨#[115,116,101,112,112,101,100]⟩:=by decide +kernel
theorem Qoc:Str.ofString "run" = ⟨#[114,117,110]⟩:=by decide +kernel
theorem Qns:Str.ofString "shot" = ⟨#[115,104,111,116]⟩:=by decide +kernel
noncomputable def Zn(t s p l r:D):List (Str×D):=[(Str.ofString "table",t),(Str.ofString "state",s),(Str.ofString "place",p),(Str.ofString "left_marks",l),(Str.ofString "right_marks",r)]
theorem QjJ(t s p l r:D):(Zn t s p l r).lookup (Str.ofString "table")=some t:=by
 unfold Zn;rw[ZF,ZG,ZH,Qy,Qt];rfl
theorem QjK(t s p l r:D):(Zn t s p l r).lookup (Str.ofString "state")=some s:=by
 unfold Zn;rw[ZF,ZG,ZH,Qy,Qt];rfl
theorem QjL(t s p l r v:D):putG (Str.ofString "state") v (Zn t s p l r)=Zn t v p l r:=by
 unfold Zn;rw[ZF,ZG,ZH,Qy,Qt];rfl
theorem QjM(t s p l r:D):(Zn t s p l r).lookup (Str.ofString "place")=some p:=by
 unfold Zn;rw[ZF,ZG,ZH,Qy,Qt];rfl
theorem QjN(t s p l r v:D):putG (Str.ofString "place") v (Zn t s p l r)=Zn t s v l r:=by
 unfold Zn;rw[ZF,ZG,ZH,Qy,Qt];rfl
theorem Qdp(t s p l r:D):(Zn t s p l r).lookup (Str.ofString "left_marks")=some l:=by
 unfold Zn;rw[ZF,ZG,ZH,Qy,Qt];rfl
theorem QcH(t s p l r:D):(Zn t s p l r).lookup (Str.ofString "right_marks")=some r:=by
 unfold Zn;rw[ZF,ZG,ZH,Qy,Qt];rfl
theorem Qdq(t s p l r:D):(Zn t s p l r).lookup (Str.ofString "is_on_mark")=none:=by
 unfold Zn;rw[ZF,ZG,ZH,Qy,Qt,Qei];rfl
theorem QjO(t s p l r:D):(Zn t s p l r).lookup (Str.ofString "entry")=none:=by
 unfold Zn;rw[ZF,ZG,ZH,Qy,Qt,QlL];rfl
theorem QjP(t s p l r:D):(Zn t s p l r).lookup (Str.ofString "write")=none:=by
 unfold Zn;rw[ZF,ZG,ZH,Qy,Qt,QlM];rfl
theorem Qfa(t s p l r:D):(Zn t s p l r).lookup (Str.ofString "go_right")=none:=by
 unfold Zn;rw[ZF,ZG,ZH,Qy,Qt,QgH];rfl
theorem QgI(t s p l r:D):(Zn t s p l r).lookup (Str.ofString "go_left")=none:=by
 unfold Zn;rw[ZF,ZG,ZH,Qy,Qt,Qih];rfl
theorem Qae(t s p l r:D):(Zn t s p l r).lookup (Str.ofString "stepped")=none:=by
 unfold Zn;rw[ZF,ZG,ZH,Qy,Qt,Qii];rfl
theorem Qnt(t s p l r:D):(Zn t s p l r).lookup (Str.ofString "run")=none:=by
 unfold Zn;rw[ZF,ZG,ZH,Qy,Qt,Qoc];rfl
theorem Qdr(t s p l r:D):(Zn t s p l r).lookup (Str.ofString "shot")=none:=by
 unfold Zn;rw[ZF,ZG,ZH,Qy,Qt,Qns];rfl
noncomputable def mkD(L:List (Int×Nat)):List D:=L.map λp=>D.tup [.int p.1,.int (p.2:Nat)]
noncomputable def Qce(rows:List (List D))(st:Nat)(pl:Int)(l r:Nat):GO:=.ins 12 (Zn (.tup (rows.map .tup)) (.int st) (.int pl) (.ref l) (.ref r))
structure WRep(rows:List (List D))(w l r:Nat)(g:G)(st:Nat)(pl:Int)(L R:List (Int×Nat)):Prop where
 w':g[w]?=some (Qce rows st pl l r)
 l':g[l]?=some (.lst (mkD L))
 r':g[r]?=some (.lst (mkD R))
 wl:w≠l
 wr:w≠r
 lr:l≠r
section
variable{rows:List (List D)}{w l r:Nat}{g:G}{st:Nat}{pl:Int}{L R:List (Int×Nat)}{σ:S3}{i:Nat}
theorem Qcf{f:Str}{c:Nat}{cs:List Nat}{fs:List (Str×D)}{d:D}(hv:σ[i]?=some (some (.ref w)))(h:g[w]?=some (.ins c fs))(hc:c∈cs)(hf:fs.lookup f=some d):QP cs f (mVar i) σ g=.ok d g:=by
 unfold QP mOp1 mVar
 rw[hv]
 dsimp only
 rw[Res.bind_ok]
 dsimp only
 rw[h]
 dsimp only
 rw[Uc hc,hf]
theorem WRep.place(W:WRep rows w l r g st pl L R)(hv:σ[i]?=some (some (.ref w))):QP [12] "place" (mVar i) σ g=.ok (.int pl) g:=Qcf hv W.w' (by simp) (QjM ..)
theorem WRep.state(W:WRep rows w l r g st pl L R)(hv:σ[i]?=some (some (.ref w))):QP [12] "state" (mVar i) σ g=.ok (.int st) g:=Qcf hv W.w' (by simp) (QjK ..)
theorem WRep.table(W:WRep rows w l r g st pl L R)(hv:σ[i]?=some (some (.ref w))):QP [11,12] "table" (mVar i) σ g=.ok (.tup (rows.map .tup)) g:=Qcf hv W.w' (by simp) (QjJ ..)
theorem WRep.left(W:WRep rows w l r g st pl L R)(hv:σ[i]?=some (some (.ref w))):QP [12] "left_marks" (mVar i) σ g=.ok (.ref l) g:=Qcf hv W.w' (by simp) (Qdp ..)
theorem WRep.right(W:WRep rows w l r g st pl L R)(hv:σ[i]?=some (some (.ref w))):QP [12] "right_marks" (mVar i) σ g=.ok (.ref r) g:=Qcf hv W.w' (by simp) (QcH ..)
theorem Z4{m:Str}{f:MF}{a:MA}{xs:List D}{g2:G}{fs:List (Str×D)}(hv:σ[i]?=some (some (.ref w)))(h:g[w]?=some (.ins 12 fs))(hm:fs.lookup m=none)(ha:a σ g=.ok xs g2):Zr 12 m f (mVar i) a σ g=f (.ref w::xs) g2:=by
 unfold Zr mVar
 rw[hv]
 dsimp only
 rw[Res.bind_ok]
 dsimp only
 rw[h]
 dsimp only
 rw[Uc ⟨rfl,hm⟩,ha,Res.bind_ok]
noncomputable def Qu(L:List (Int×Nat))(x:Int):Option Nat:=match L.getLast? with
 |some (y,s)=>if y=x then some s else none
 |none=>none
theorem YK(L:List (Int×Nat)):(mkD L).length=L.length:=by simp[mkD]
theorem QjQ{L:List (Int×Nat)}{p:Int×Nat}(h:L.getLast?=some p):atD (mkD L) (-1)=some (.tup [.int p.1,.int (p.2:Nat)]):=by
 have hne:L≠[]:=λz=>by rw[z]at h;cases h
 have hpos:0<L.length:=RF.mpr hne
 unfold atD ixD
 rw[Uh (by decide),YK,Uc (by omega)]
 show(mkD L)[((-1:Int)+(L.length:Int)).toNat]?=_
 rw[show((-1:Int)+(L.length:Int)).toNat=L.length-1 by omega]
 rw[RQ]at h
 simp[mkD,h]
theorem QjR{L:List (Int×Nat)}(h:L.getLast?=none):L=[]:=by simpa using h
theorem QkH{x:Nat}{L:List (Int×Nat)}{a:ME}(ha:a σ g=.ok (.ref x) g)(hx:g[x]?=some (.lst (mkD L))):mOp2 pGt (mOp1 pLen a) (mLit (.int 0)) σ g=.ok (.bl (decide (0<L.length))) g:=by
 refine Qn (x:=.int L.length) (g1:=g) (ZW ha (by simp[pLen,hx,YK])) rfl ?_
 show Res.ok (D.bl (decide ((0:Int)<(L.length:Int)))) g=_
 rw[show decide ((0:Int)<(L.length:Int))=decide (0<L.length) from decide_eq_decide.mpr (by omega)]
theorem QcT{x:Nat}{L:List (Int×Nat)}{p:Int×Nat}{a:ME}{k:Int}(ha:a σ g=.ok (.ref x) g)(hx:g[x]?=some (.lst (mkD L)))(h:L.getLast?=some p)(hk:k=0\/k=1):mOp2 pIx (mOp2 pIx a (mOp1 pNeg (mLit (.int 1)))) (mLit (.int k)) σ g=.ok (.int (if k=0 then p.1 else (p.2:Nat))) g:=by
 refine Qn (x:=.tup [.int p.1,.int (p.2:Nat)]) (g1:=g) (Qn (x:=.ref x) (y:=.int (-1)) (g1:=g) (g2:=g) ha rfl ?_) rfl ?_
 ·unfold pIx;dsimp only;rw[hx];dsimp only;rw[QjQ h]
 ·rcases hk with rfl|rfl <;> rfl
theorem Qij{x:Nat}{L:List (Int×Nat)}{a b:ME}{y:Int}(ha:a σ g=.ok (.ref x) g)(hx:g[x]?=some (.lst (mkD L)))(hb:b σ g=.ok (.int y) g):
  mAnd (mOp2 pGt (mOp1 pLen a) (mLit (.int 0))) (mOp2 pEq (mOp2 pIx (mOp2 pIx a (mOp1 pNeg (mLit (.int 1)))) (mLit (.int 0))) b) σ g=.ok (.bl (Qu L y).isSome) g:=by
 unfold mAnd
 rw[QkH ha hx,Res.bind_ok]
 dsimp only
 cases h:L.getLast? with
 |none =>
  have:=QjR h
  subst this
  rfl
 |some p =>
  have hne:L≠[]:=λz=>by rw[z]at h;cases h
  rw[Us (RF.mpr hne),Uc rfl,Qn (QcT ha hx h (.inl rfl)) hb rfl,Uc rfl,eq_int]
  unfold Qu
  rw[h]
  obtain⟨z,s⟩:=p
  dsimp only
  by_cases e:z=y
  ·rw[Uc e,e];simp
  ·rw[Uh e,UT.mpr e];rfl
theorem QgJ(W:WRep rows w l r g st pl L R):QF [.ref w] g=.ok (.bl (Qu R pl).isSome) g :=
 QJ rfl (ZE (Qij (W.right rfl) W.r' (W.place rfl)))
theorem Qcg(W:WRep rows w l r g st pl L R)(hv:σ[i]?=some (some (.ref w))):Qf (Zr 12 (Str.ofString "is_on_mark") QF (mVar i) mNil) σ g=.ok (Qu R pl).isSome g :=
 QB (by rw[Z4 hv W.w' (Qdq ..) rfl];exact QgJ W)
theorem QjS{row:List D}{d:D}(W:WRep rows w l r g st pl L R)(hr:rows[st]?=some row)(hd:row[(Qu R pl).getD 0]?=some d):YS [.ref w] g=.ok d g:=by
 have hst:st<rows.length:=(Ue.mp hr).1
 have hs:(Qu R pl).getD 0<row.length:=(Ue.mp hd).1
 refine QJ rfl ?_
 show JI [some (.ref w),none] g=_
 unfold JI
 refine Qg [some (.ref w),some (.int ((Qu R pl).getD 0:Nat))] g (Qw ?_) (ZE ?_)
 ·unfold mIfE
  rw[Qcg W rfl,Res.bind_ok]
  cases h:Qu R pl with
  |none=>rfl
  |some s =>
   have hl:R.getLast?=some (pl,s):=by
    unfold Qu at h
    cases hq:R.getLast? with
    |none=>rw[hq]at h;cases h
    |some p =>
     obtain⟨z,s'⟩:=p
     rw[hq]at h
     dsimp only at h
     by_cases e:z=pl
     ·rw[Uc e]at h;cases h;rw[e]
     ·rw[Uh e]at h;cases h
   rw[show(some s).isSome=true from rfl,Uc rfl,QcT (W.right rfl) W.r' hl (.inr rfl)];rfl
 ·have e1:pIx (.tup (rows.map .tup)) (.int st) g=.ok (.tup row) g:=by
   unfold pIx;dsimp only
   unfold atD ixD
   rw[Uc (by omega),Uc (by simp;omega)]
   simp[hr]
  have e2:pIx (.tup row) (.int ((Qu R pl).getD 0:Nat)) g=.ok d g:=by
   unfold pIx;dsimp only
   unfold atD ixD
   rw[Uc (by omega),Uc (by omega)]
   simp[hd]
  exact Qn (Qn (W.table rfl) (W.state rfl) e1) rfl e2
end
section
variable{rows:List (List D)}{w l r:Nat}{g:G}{st:Nat}{pl:Int}{L R:List (Int×Nat)}{σ:S3}{i:Nat}
theorem JR{R:List (Int×Nat)}{pl:Int}{s:Nat}(h:Qu R pl=some s):R.getLast?=some (pl,s):=by
 unfold Qu at h
 cases hq:R.getLast? with
 |none=>rw[hq]at h;cases h
 |some p =>
  obtain⟨z,s'⟩:=p
  rw[hq]at h
  dsimp only at h
  by_cases e:z=pl
  ·rw[Uc e]at h;cases h;rw[e]
  ·rw[Uh e]at h;cases h
theorem Qik{x:Nat}{p:Int×Nat}{a:ME}(ha:a σ g=.ok (.ref x) g)(hx:g[x]?=some (.lst (mkD L)))(h:L.getLast?=some p):mOp1 pPop a σ g=.ok (.tup [.int p.1,.int (p.2:Nat)]) (g.set x (.lst (mkD L.dropLast))):=by
 refine ZW ha ?_
 unfold pPop
 dsimp only
 rw[hx]
 dsimp only
 have e:(mkD L)[(mkD L).length-1]?=some (.tup [.int p.1,.int (p.2:Nat)]):=by
  rw[RQ]at h
  rw[YK]
  simp[mkD,h]
 rw[e]
 dsimp only
 have:(mkD L).dropLast=mkD L.dropLast:=by simp[mkD,List.map_dropLast]
 rw[this]
theorem QfY(L:List (Int×Nat))(x:Int)(s:Nat):mkD L++[.tup [.int x,.int s]]=mkD (L++[(x,s)]):=by simp[mkD]
theorem WRep.setR{R':List (Int×Nat)}(W:WRep rows w l r g st pl L R):WRep rows w l r (g.set r (.lst (mkD R'))) st pl L R' :=
 ⟨by rw[Ui (Ne.symm W.wr)];exact W.w',by rw[Ui (Ne.symm W.lr)];exact W.l',Q3 W.r',W.wl,W.wr,W.lr⟩
theorem WRep.setL{L':List (Int×Nat)}(W:WRep rows w l r g st pl L R):WRep rows w l r (g.set l (.lst (mkD L'))) st pl L' R :=
 ⟨by rw[Ui (Ne.symm W.wl)];exact W.w',Q3 W.l',by rw[Ui W.lr];exact W.r',W.wl,W.wr,W.lr⟩
theorem WRep.setW{st':Nat}{pl':Int}(W:WRep rows w l r g st pl L R):WRep rows w l r (g.set w (Qce rows st' pl' l r)) st' pl' L R :=
 ⟨Q3 W.w',by rw[Ui W.wl];exact W.l',by rw[Ui W.wr];exact W.r',W.wl,W.wr,W.lr⟩
abbrev KW(w l r:Nat)(g g':G):Prop:=Keeps [w,l,r] g g'
theorem QaQ{w l r x:Nat}{g:G}{o:GO}(h:x=w\/x=l\/x=r):KW w l r g (g.set x o):=(Keeps.set x o).mono λn hn=>by
 rw[Uf.mp hn]
 rcases h with rfl|rfl|rfl <;> simp
noncomputable def Zp(R:List (Int×Nat))(pl:Int):List (Int×Nat):=if (Qu R pl).isSome=true then R.dropLast else R
noncomputable def wrt(R:List (Int×Nat))(pl:Int)(s:Nat):List (Int×Nat):=Zp R pl++(if s=0 then [] else [(pl,s)])
theorem QjT{s:Nat}(W:WRep rows w l r g st pl L R)(hz:R.length<1000):∃g',YT [.ref w,.int s] g=.ok .non g'/\WRep rows w l r g' st pl L (wrt R pl s)/\KW w l r g g':=by
 have a1:∃g1,mIf (Qf (Zr 12 (Str.ofString "is_on_mark") QF (mVar 0) mNil)) (Z7 (mOp1 pPop (QP [12] "right_marks" (mVar 0)))) QN [some (.ref w),some (.int s)] g=.nx [some (.ref w),some (.int s)] g1/\WRep rows w l r g1 st pl L (Zp R pl)/\KW w l r g g1:=by
  unfold Zp
  cases h:Qu R pl with
  |none=>exact⟨g,iff' g ((Qcg W rfl).trans (by rw[h];rfl)) rfl,by simpa using W,.refl⟩
  |some s'=>exact⟨_,ift g ((Qcg W rfl).trans (by rw[h];rfl)) (JM (Qik (W.right rfl) W.r' (JR h))),by simpa using W.setR,QaQ (.inr (.inr rfl))⟩
 obtain⟨g1,e1,W1,k1⟩:=a1
 have hz1:(Zp R pl).length<1000:=by
  unfold Zp
  split
  ·rw[WG];omega
  ·exact hz
 by_cases hs:s=0
 ·refine⟨g1,Qeg (σ:=[some (.ref w),some (.int s)]) rfl ?_,by unfold wrt;rw[Uc hs,U6];exact W1,k1⟩
  show Yh [some (.ref w),some (.int s)] g=_
  unfold Yh
  exact Qg _ _ e1 (iff' g1 (QB (Qn (x:=.int s) (y:=.int 0) (g1:=g1) (g2:=g1) rfl rfl (by rw[ne_int,hs];rfl))) rfl)
 ·refine⟨g1.set r (.lst (mkD (Zp R pl++[(pl,s)]))),Qeg (σ:=[some (.ref w),some (.int s)]) rfl ?_,by unfold wrt;rw[Uh hs];exact W1.setR,k1.trans (QaQ (.inr (.inr rfl)))⟩
  show Yh [some (.ref w),some (.int s)] g=_
  unfold Yh
  refine Qg _ _ e1 (ift g1 (QB (Qn (x:=.int s) (y:=.int 0) (g1:=g1) (g2:=g1) rfl rfl (by rw[ne_int,UT.mpr (by omega)];rfl))) ?_)
  rw[<-QfY]
  refine Qcc (W1.right rfl) W1.r' ?_ (JN (by rw[YK];omega))
  have:(Qb (QP [12] "place" (mVar 0)) (Qb (mVar 1) mNil)) [some (.ref w),some (.int s)] g1=.ok [.int pl,.int s] g1:=Qz (W1.place rfl) rfl
  unfold mOpA
  rw[this,Res.bind_ok];rfl
theorem QfZ{e:ME}{v:Int}(W:WRep rows w l r g st pl L R)(hv:σ[0]?=some (some (.ref w)))(he:e σ g=.ok (.int v) g):QR [12] "place" (mVar 0) e σ g=.nx σ (g.set w (Qce rows st v l r)):=by
 unfold QR mVar
 rw[he]
 dsimp only
 rw[hv]
 dsimp only
 rw[W.w']
 unfold Qce
 dsimp only
 rw[Uc ⟨by simp,by simp[Zn]⟩,QjN]
theorem QjU{e:ME}{v:Nat}(W:WRep rows w l r g st pl L R)(hv:σ[0]?=some (some (.ref w)))(he:e σ g=.ok (.int v) g):QR [12] "state" (mVar 0) e σ g=.nx σ (g.set w (Qce rows v pl l r)):=by
 unfold QR mVar
 rw[he]
 dsimp only
 rw[hv]
 dsimp only
 rw[W.w']
 unfold Qce
 dsimp only
 rw[Uc ⟨by simp,by simp[Zn]⟩,QjL]
noncomputable def Yj(L:List (Int×Nat))(x:Int):Option Nat->List (Int×Nat)
 |some s=>L++[(x,s)]
 |none=>L
theorem Qf0{x y:Nat}{A B:List (Int×Nat)}{p:Int×Nat}{o a:ME}(ho:o σ g=.ok (.ref x) g)(ha:a σ g=.ok (.ref y) g)(hx:g[x]?=some (.lst (mkD A)))(hy:g[y]?=some (.lst (mkD B)))(hxy:x≠y)(h:B.getLast?=some p)(hz:A.length<1000):
  Z7 (ZP o (mOp1 pPop a)) σ g=.nx σ ((g.set y (.lst (mkD B.dropLast))).set x (.lst (mkD (A++[p])))):=by
 refine JM (d:=.non) ?_
 have hx1:(g.set y (.lst (mkD B.dropLast)))[x]?=some (.lst (mkD A)):=by rw[Ui (Ne.symm hxy)];exact hx
 have hz':(mkD A).length<SZ:=JN (by rw[YK];omega)
 unfold ZP
 rw[ho,Res.bind_ok];dsimp only
 rw[hx];dsimp only
 rw[Qik ha hy h,Res.bind_ok]
 rw[hx1];dsimp only
 rw[Uc hz',QfY]
theorem Qfb(W:WRep rows w l r g st pl L R)(hz:L.length<1000):∃g',Z2 [.ref w] g=.ok .non g'/\WRep rows w l r g' st (pl+1) (Yj L pl (Qu R pl)) (Zp R pl)/\KW w l r g g':=by
 have a1:∃g1,mIf (Qf (Zr 12 (Str.ofString "is_on_mark") QF (mVar 0) mNil)) (Z7 (ZP (QP [12] "left_marks" (mVar 0)) (mOp1 pPop (QP [12] "right_marks" (mVar 0))))) QN [some (.ref w)] g=.nx [some (.ref w)] g1/\WRep rows w l r g1 st pl (Yj L pl (Qu R pl)) (Zp R pl)/\KW w l r g g1:=by
  unfold Zp
  cases h:Qu R pl with
  |none=>exact⟨g,iff' g ((Qcg W rfl).trans (by rw[h];rfl)) rfl,by simpa[Yj]using W,.refl⟩
  |some s'=>exact⟨_,ift g ((Qcg W rfl).trans (by rw[h];rfl)) (Qf0 (W.left rfl) (W.right rfl) W.l' W.r' W.lr (JR h) hz),by simpa[Yj]using (W.setR (R':=R.dropLast)).setL,(QaQ (.inr (.inr rfl))).trans (QaQ (.inr (.inl rfl)))⟩
 obtain⟨g1,e1,W1,k1⟩:=a1
 refine⟨_,Qeg (σ:=[some (.ref w)]) rfl ?_,W1.setW,k1.trans (QaQ (.inl rfl))⟩
 show YF [some (.ref w)] g=_
 unfold YF
 exact Qg _ _ e1 (QfZ W1 rfl (Qn (W1.place rfl) rfl rfl))
theorem QgK(W:WRep rows w l r g st pl L R)(hz:R.length<1000):∃g',Yd [.ref w] g=.ok .non g'/\WRep rows w l r g' st (pl-1) (Zp L (pl-1)) (Yj R (pl-1) (Qu L (pl-1)))/\KW w l r g g':=by
 have W1:WRep rows w l r (g.set w (Qce rows st (pl-1) l r)) st (pl-1) L R:=W.setW
 have k1:KW w l r g (g.set w (Qce rows st (pl-1) l r)):=QaQ (.inl rfl)
 have e1:QR [12] "place" (mVar 0) (mOp2 pSub (QP [12] "place" (mVar 0)) (mLit (.int 1))) [some (.ref w)] g=.nx [some (.ref w)] (g.set w (Qce rows st (pl-1) l r)):=QfZ W rfl (Qn (W.place rfl) rfl rfl)
 generalize g.set w (Qce rows st (pl-1) l r)=g1 at W1 k1 e1
 have t1:ZN (Qf (mOp2 pGt (mOp1 pLen (QP [12] "left_marks" (mVar 0))) (mLit (.int 0)))) (Qf (mOp2 pEq (mOp2 pIx (mOp2 pIx (QP [12] "left_marks" (mVar 0)) (mOp1 pNeg (mLit (.int 1)))) (mLit (.int 0))) (QP [12] "place" (mVar 0)))) [some (.ref w)] g1=.ok (Qu L (pl-1)).isSome g1:=by
  have:=Qij (σ:=[some (.ref w)]) (W1.left (i:=0) rfl) W1.l' (W1.place (i:=0) rfl)
  unfold mAnd at this
  unfold ZN Qf
  rw[QkH (W1.left rfl) W1.l',Res.bind_ok]at this ⊢
  dsimp only at this ⊢
  rw[Res.bind_ok]
  by_cases hp:0<L.length
  ·rw[Us hp,Uc rfl]at this ⊢
   rw[this,Res.bind_ok]
  ·rw[Uq hp,Uh Ud]at this ⊢
   injection this with a b
   injection a with a
   rw[<-a]
 have a2:∃g2,Y6 [some (.ref w)] g=.nx [some (.ref w)] g2/\WRep rows w l r g2 st (pl-1) (Zp L (pl-1)) (Yj R (pl-1) (Qu L (pl-1)))/\KW w l r g g2:=by
  unfold Y6 Zp
  cases h:Qu L (pl-1) with
  |none=>exact⟨g1,Qg _ _ e1 (iff' g1 (t1.trans (by rw[h];rfl)) rfl),by simpa[Yj]using W1,k1⟩
  |some s'=>exact⟨_,Qg _ _ e1 (ift g1 (t1.trans (by rw[h];rfl)) (Qf0 (W1.right rfl) (W1.left rfl) W1.r' W1.l' (Ne.symm W1.lr) (JR h) hz)),by simpa[Yj]using (W1.setL (L':=L.dropLast)).setR,k1.trans ((QaQ (.inr (.inl rfl))).trans (QaQ (.inr (.inr rfl))))⟩
 obtain⟨g2,e2,W2,k2⟩:=a2
 exact⟨g2,Qeg rfl e2,W2,k2⟩
noncomputable def goL(d:D)(pl:Int)(L R:List (Int×Nat)):Option (Nat×Int×List (Int×Nat)×List (Int×Nat)):=match d with
 |.tup [.int a,.str y,.int b]=>some (if y=rS then (b.toNat,pl+1,Yj L pl (Qu (wrt R pl a.toNat) pl),Zp (wrt R pl a.toNat) pl) else (b.toNat,pl-1,Zp L (pl-1),Yj (wrt R pl a.toNat) (pl-1) (Qu L (pl-1))))
 |_=>none
theorem Qil(R:List (Int×Nat))(pl:Int)(s:Nat):(wrt R pl s).length<=R.length+1:=by
 unfold wrt Zp
 rw[UB]
 split <;> split <;> simp <;> omega
theorem Qbd{row:List D}{d:D}{n m:Nat}(W:WRep rows w l r g st pl L R)(hr:rows[st]?=some row)(hd:row[(Qu R pl).getD 0]?=some d)(ho:entOk d n m)(hzL:L.length<900)(hzR:R.length<900):
  (d=.non/\Qo [.ref w] g=.ok (.bl false) g)\/∃st' pl' L' R' g',goL d pl L R=some (st',pl',L',R')/\Qo [.ref w] g=.ok (.bl true) g'/\WRep rows w l r g' st' pl' L' R'/\KW w l r g g':=by
 have e0:mAsg (gSet 1) (Zr 12 (Str.ofString "entry") YS (mVar 0) mNil) [some (.ref w),none] g=.nx [some (.ref w),some d] g:=Qw (by rw[Z4 rfl W.w' (QjO ..) rfl];exact QjS W hr hd)
 rcases ho with rfl|⟨a,b,y,rfl,a1,a2,b1,b2,yy⟩
 ·refine .inl ⟨rfl,QJ rfl ?_⟩
  show ZK [some (.ref w),none] g=_
  unfold ZK
  exact Qg _ _ e0 (ZL (ift g rfl rfl))
 ·right
  obtain⟨g1,e1,W1,k1⟩:=QjT (s:=a.toNat) W (by omega)
  have ea:((a.toNat:Nat):Int)=a:=by omega
  have eb:((b.toNat:Nat):Int)=b:=by omega
  rw[ea]at e1
  have hl1:=Qil R pl a.toNat
  have hw:Z7 (Zr 12 (Str.ofString "write") YT (mVar 0) (Qb (mOp2 pIx (mVar 1) (mLit (.int 0))) mNil)) [some (.ref w),some (.tup [.int a,.str y,.int b])] g=.nx [some (.ref w),some (.tup [.int a,.str y,.int b])] g1:=JM (d:=.non) (by rw[Z4 rfl W.w' (QjP ..) (xs:=[.int a]) (g2:=g) rfl];exact e1)
  have fin:∀{pl' L' R' g2},mIf (Qf (mOp2 pEq (mOp2 pIx (mVar 1) (mLit (.int 1))) (mLit (.str "r")))) (Z7 (Zr 12 (Str.ofString "go_right") Z2 (mVar 0) mNil)) (Z7 (Zr 12 (Str.ofString "go_left") Yd (mVar 0) mNil)) [some (.ref w),some (.tup [.int a,.str y,.int b])] g1=.nx [some (.ref w),some (.tup [.int a,.str y,.int b])] g2->WRep rows w l r g2 st pl' L' R'->KW w l r g1 g2->∃g',Qo [.ref w] g=.ok (.bl true) g'/\WRep rows w l r g' b.toNat pl' L' R'/\KW w l r g g':=λ{pl' L' R' g2} h W2 k2=>by
   refine⟨g2.set w (Qce rows b.toNat pl' l r),QJ rfl ?_,W2.setW,(k1.trans k2).trans (QaQ (.inl rfl))⟩
   show ZK [some (.ref w),none] g=_
   unfold ZK
   refine Qg _ _ e0 (Qg _ g (iff' g rfl rfl) (Qg _ _ hw (Qg _ _ h (Qg _ _ (QjU W2 rfl ?_) rfl))))
   rw[eb];rfl
  have t:Qf (mOp2 pEq (mOp2 pIx (mVar 1) (mLit (.int 1))) (mLit (.str "r"))) [some (.ref w),some (.tup [.int a,.str y,.int b])] g1=.ok (y == rS) g1:=by
   rw[s_r];exact QB (Qn (x:=.str y) (Qn rfl rfl rfl) rfl rfl)
  by_cases hy:y=rS
  ·obtain⟨g2,e2,W2,k2⟩:=Qfb W1 (by omega)
   obtain⟨g',e3,W3,k3⟩:=fin (ift g1 (t.trans (by simp[hy])) (JM (d:=.non) (by rw[Z4 rfl W1.w' (Qfa ..) rfl];exact e2))) W2 k2
   exact⟨_,_,_,_,g',by unfold goL;dsimp only;rw[Uc hy],e3,W3,k3⟩
  ·obtain⟨g2,e2,W2,k2⟩:=QgK W1 (by omega)
   obtain⟨g',e3,W3,k3⟩:=fin (iff' g1 (t.trans (by simp[hy])) (JM (d:=.non) (by rw[Z4 rfl W1.w' (QgI ..) rfl];exact e2))) W2 k2
   exact⟨_,_,_,_,g',by unfold goL;dsimp only;rw[Uh hy],e3,W3,k3⟩
end
theorem Qaf{c:MT}{body:MS}:∀(f:Nat)(σ:S3)(g:G),QX c body f σ g≠.stuck->∀f',f<=f'->QX c body f' σ g=QX c body f σ g
 |0,_,_,h,_,_=>absurd rfl h
 |f+1,σ,g,h,f',hf=>by
  obtain⟨k,rfl⟩:∃k,f'=k+1:=⟨f' - 1,by omega⟩
  unfold QX at h ⊢
  cases hc:c σ g with
  |stuck=>rfl
  |raise e g1=>rfl
  |ok b g1 =>
   cases b with
   |false=>rfl
   |true =>
    rw[hc]at h
    dsimp only at h ⊢
    cases hb:body σ g1 with
    |nx σ2 g2=>rw[hb]at h;exact Qaf f σ2 g2 h k (by omega)
    |ct σ2 g2=>rw[hb]at h;exact Qaf f σ2 g2 h k (by omega)
    |bk σ2 g2=>rfl
    |rt d g2=>rfl
    |raise e σ2 g2=>rfl
    |stuck=>rfl
theorem QbL{c:MT}{body:MS}{f:Nat}{σ:S3}{g:G}{R:Out}(h:QX c body f σ g=R)(hR:R≠.stuck):QbW c body σ g=R:=by
 have hx:∃f,QX c body f σ g≠.stuck:=⟨f,by rw[h];exact hR⟩
 unfold QbW
 rw[dif_pos hx]
 have h1:=hx.choose_spec
 rcases Nat.le_total f hx.choose with z|z
 ·rw[Qaf f σ g (by rw[h];exact hR) _ z,h]
 ·rw[<-Qaf _ σ g h1 f z,h]
structure Cf where
 st:Nat
 pl:Int
 L:List (Int×Nat)
 R:List (Int×Nat)
noncomputable def Qfc(rows:List (List D))(s c:Nat):Option D:=(rows[s]?).bind λr=>r[c]?
noncomputable def Q5(rows:List (List D))(c:Cf):Option Cf:=((Qfc rows c.st ((Qu c.R c.pl).getD 0)).bind λd=>goL d c.pl c.L c.R).map λx=>⟨x.1,x.2.1,x.2.2.1,x.2.2.2⟩
noncomputable def runC(rows:List (List D)):Nat->Cf->Cf×Nat
 |0,c=>(c,0)
 |k+1,c=>match Q5 rows c with
  |none=>(c,0)
  |some c'=>((runC rows k c').1,(runC rows k c').2+1)
theorem ZM{rows:List (List D)}{k:Nat}{c c':Cf}(h:Q5 rows c=some c'):runC rows (k+1) c=((runC rows k c').1,(runC rows k c').2+1):=by
 show(match Q5 rows c with|none=>(c,0)|some c'=>((runC rows k c').1,(runC rows k c').2+1))=_
 rw[h]
theorem Zz{rows:List (List D)}{k:Nat}{c:Cf}(h:Q5 rows c=none):runC rows (k+1) c=(c,0):=by
 show(match Q5 rows c with|none=>(c,0)|some c'=>((runC rows k c').1,(runC rows k c').2+1))=_
 rw[h]
structure OkC(n m:Nat)(c:Cf):Prop where
 st:c.st<n
 L:∀p∈c.L,p.2<m
 R:∀p∈c.R,p.2<m
theorem OkC.sg{n m:Nat}{c:Cf}(h:OkC n m c)(hm:0<m):(Qu c.R c.pl).getD 0<m:=by
 cases e:Qu c.R c.pl with
 |none=>exact hm
 |some s=>exact h.R _ (TN (JR e))
theorem Qfd{R:List (Int×Nat)}{x:Int}{p:Int×Nat}(h:p∈Zp R x):p∈R:=by
 unfold Zp at h
 split at h
 ·exact List.dropLast_subset _ h
 ·exact h
theorem Qim{L:List (Int×Nat)}{x:Int}{o:Option Nat}{p:Int×Nat}(h:p∈Yj L x o):p∈L\/o=some p.2:=by
 cases o with
 |none=>exact .inl h
 |some s =>
  rcases Uz.mp h with z|z
  ·exact .inl z
  ·rw[Uf.mp z];exact .inr rfl
theorem QlN{R:List (Int×Nat)}{x:Int}{s:Nat}{p:Int×Nat}(h:p∈wrt R x s):p∈R\/p=(x,s):=by
 unfold wrt at h
 rcases Uz.mp h with z|z
 ·exact .inl (Qfd z)
 ·split at z
  ·cases z
  ·exact .inr (Uf.mp z)
theorem Qfe{rows:List (List D)}{n m:Nat}{c c':Cf}{d:D}(h:OkC n m c)(ho:entOk d n m)(hg:(goL d c.pl c.L c.R).map (λx=>(⟨x.1,x.2.1,x.2.2.1,x.2.2.2⟩:Cf))=some c'):OkC n m c'/\c'.L.length+c'.R.length<=c.L.length+c.R.length+1:=by
 rcases ho with rfl|⟨a,b,y,rfl,a1,a2,b1,b2,yy⟩
 ·cases hg
 ·have hw:∀p∈wrt c.R c.pl a.toNat,p.2<m:=λp hp=>by
   rcases QlN hp with z|z
   ·exact h.R p z
   ·rw[z];show a.toNat<m;omega
  have hwl:=Qil c.R c.pl a.toNat
  have lens:∀(A B:List (Int×Nat))(x:Int),(Yj A x (Qu B x)).length+(Zp B x).length=A.length+B.length:=λA B x=>by
   unfold Zp
   cases e:Qu B x with
   |none=>simp[Yj]
   |some s =>
    have hne:B≠[]:=λz=>by rw[z]at e;cases e
    have:=RF.mpr hne
    simp[Yj];omega
  unfold goL at hg
  dsimp only at hg
  by_cases hy:y=rS
  ·rw[Uc hy]at hg
   cases hg
   refine⟨⟨by show b.toNat<n;omega,λp hp=>?_,λp hp=>hw p (Qfd hp)⟩,by have:=lens c.L (wrt c.R c.pl a.toNat) c.pl;show(Yj c.L c.pl (Qu (wrt c.R c.pl a.toNat) c.pl)).length+(Zp (wrt c.R c.pl a.toNat) c.pl).length<=_;omega⟩
   rcases Qim hp with z|z
   ·exact h.L p z
   ·exact hw (c.pl,p.2) (TN (JR z))
  ·rw[Uh hy]at hg
   cases hg
   refine⟨⟨by show b.toNat<n;omega,λp hp=>h.L p (Qfd hp),λp hp=>?_⟩,by have:=lens (wrt c.R c.pl a.toNat) c.L (c.pl-1);show(Zp c.L (c.pl-1)).length+(Yj (wrt c.R c.pl a.toNat) (c.pl-1) (Qu c.L (c.pl-1))).length<=_;omega⟩
   rcases Qim hp with z|z
   ·exact hw p z
   ·exact h.L (c.pl-1,p.2) (TN (JR z))
structure Tb(rows:List (List D))(n m:Nat):Prop where
 n0:0<n
 m0:0<m
 n12:n<=12
 m8:m<=8
 len:rows.length=n
 row:∀r∈rows,r.length=m
 ent:∀r∈rows,∀d∈r,entOk d n m
theorem Tb.at{rows:List (List D)}{n m s c:Nat}(T:Tb rows n m)(hs:s<n)(hc:c<m):∃row d,rows[s]?=some row/\row[c]?=some d/\entOk d n m/\Qfc rows s c=some d:=by
 have h1:s<rows.length:=by rw[T.len];exact hs
 have hm:=UZ h1
 have h2:c<rows[s].length:=by rw[T.row _ hm];exact hc
 refine⟨rows[s],rows[s][c],by simp,by simp,T.ent _ hm _ (UZ h2),?_⟩
 unfold Qfc
 simp[h1,h2]
def cRep(rows:List (List D))(w l r:Nat)(g:G)(c:Cf):Prop:=WRep rows w l r g c.st c.pl c.L c.R
theorem Qf1{rows:List (List D)}{n m w l r:Nat}{steps:Int}(T:Tb rows n m):∀(k:Nat)(c:Cf)(g:G)(done:Int),done+k=steps->OkC n m c->c.L.length+c.R.length+k<800->cRep rows w l r g c ->
  ∃g',QX (ZN (Qf (mOp2 pLt (mVar 2) (mVar 1))) (Qf (Zr 12 (Str.ofString "stepped") Qo (mVar 0) mNil))) Js (k+1) [some (.ref w),some (.int steps),some (.int done)] g=.nx [some (.ref w),some (.int steps),some (.int (done+(runC rows k c).2))] g'/\cRep rows w l r g' (runC rows k c).1/\KW w l r g g'/\OkC n m (runC rows k c).1
 |0,c,g,done,hd,ho,hz,W=>by
  refine⟨g,?_,W,.refl,ho⟩
  unfold QX
  have t:ZN (Qf (mOp2 pLt (mVar 2) (mVar 1))) (Qf (Zr 12 (Str.ofString "stepped") Qo (mVar 0) mNil)) [some (.ref w),some (.int steps),some (.int done)] g=.ok false g:=by
   have:Qf (mOp2 pLt (mVar 2) (mVar 1)) [some (.ref w),some (.int steps),some (.int done)] g=.ok (decide (done<steps)) g:=rfl
   unfold ZN
   rw[this,Res.bind_ok,Uq (by omega)];rfl
  rw[t]
  simp[runC]
 |k+1,c,g,done,hd,ho,hz,W=>by
  obtain⟨row,d,hr,hdd,hent,hat⟩:=T.at ho.st (ho.sg T.m0)
  have lt:Qf (mOp2 pLt (mVar 2) (mVar 1)) [some (.ref w),some (.int steps),some (.int done)] g=.ok true g:=by
   have:Qf (mOp2 pLt (mVar 2) (mVar 1)) [some (.ref w),some (.int steps),some (.int done)] g=.ok (decide (done<steps)) g:=rfl
   rw[this,Us (by omega)]
  have tt:∀b g1,Qo [.ref w] g=.ok (.bl b) g1->ZN (Qf (mOp2 pLt (mVar 2) (mVar 1))) (Qf (Zr 12 (Str.ofString "stepped") Qo (mVar 0) mNil)) [some (.ref w),some (.int steps),some (.int done)] g=.ok b g1:=λb g1 h=>by
   unfold ZN
   rw[lt,Res.bind_ok,Uc rfl]
   exact QB (by rw[Z4 rfl W.w' (Qae ..) rfl];exact h)
  rcases Qbd W hr hdd hent (by omega) (by omega) with⟨rfl,e⟩|⟨st',pl',L',R',g1,eg,e,W1,k1⟩
  ·have hs:Q5 rows c=none:=by unfold Q5;rw[hat];rfl
   rw[Zz hs]
   refine⟨g,?_,W,.refl,ho⟩
   unfold QX
   rw[tt false g e]
   simp
  ·have hs:Q5 rows c=some ⟨st',pl',L',R'⟩:=by unfold Q5;rw[hat];show(goL d c.pl c.L c.R).map _=_;rw[eg];rfl
   obtain⟨ho',hl'⟩:=Qfe (rows:=rows) ho hent (c':=⟨st',pl',L',R'⟩) (by rw[eg];rfl)
   obtain⟨g2,e2,W2,k2,o2⟩:=Qf1 (w:=w) (l:=l) (r:=r) (steps:=steps) T k ⟨st',pl',L',R'⟩ g1 (done+1) (by omega) ho' (by show L'.length+R'.length+k<800;have:L'.length+R'.length<=c.L.length+c.R.length+1:=hl';omega) W1
   rw[ZM hs]
   refine⟨g2,?_,W2,k1.trans k2,o2⟩
   unfold QX
   rw[tt true g1 e]
   have eb:Js [some (.ref w),some (.int steps),some (.int done)] g1=.nx [some (.ref w),some (.int steps),some (.int (done+1))] g1:=rfl
   dsimp only
   rw[eb]
   dsimp only
   rw[e2]
   rw[show done+1+((runC rows k ⟨st',pl',L',R'⟩).2:Int)=done+(((runC rows k ⟨st',pl',L',R'⟩).2+1:Nat):Int) by omega]
theorem Qnu{rows:List (List D)}{n m w l r k:Nat}{c:Cf}{g:G}(T:Tb rows n m)(ho:OkC n m c)(hz:c.L.length+c.R.length+k<800)(W:cRep rows w l r g c):
  ∃g',Qaa [.ref w,.int k] g=.ok (.int (runC rows k c).2) g'/\cRep rows w l r g' (runC rows k c).1/\KW w l r g g'/\OkC n m (runC rows k c).1:=by
 obtain⟨g',e,W',k',o'⟩:=Qf1 (w:=w) (l:=l) (r:=r) (steps:=k) T k c g 0 (by omega) ho hz W
 rw[Bn]at e
 refine⟨g',QJ rfl ?_,W',k',o'⟩
 show Qbb [some (.ref w),some (.int k),none] g=_
 unfold Qbb
 exact Qg [some (.ref w),some (.int k),some (.int 0)] g rfl (Qg _ g' (QbL e (by intro z;cases z)) rfl)
noncomputable def Ql(c:Cf):D:=.tup [.int c.st,.int c.pl,.tup (mkD (c.L++c.R.reverse))]
theorem Qds{rows:List (List D)}{w l r:Nat}{c:Cf}{g:G}(hz:c.L.length+c.R.length<=1000)(W:cRep rows w l r g c):ZQ [.ref w] g=.ok (Ql c) g:=by
 refine QJ rfl (ZE ?_)
 have hz':(mkD c.L).length+((mkD c.R).reverse).length<=SZ:=U3 (JN (by rw[RE,YK,YK];exact hz))
 have e1:mOp2 pAdd (mOp1 Ym (QP [12] "left_marks" (mVar 0))) (mOp1 Jf (QP [12] "right_marks" (mVar 0))) [some (.ref w)] g=.ok (.tup (mkD (c.L++c.R.reverse))) g:=by
  refine Qn (x:=.tup (mkD c.L)) (y:=.tup (mkD c.R).reverse) (g1:=g) (g2:=g) (ZW (W.left rfl) (by simp[Ym,W.l'])) (ZW (W.right rfl) ?_) ?_
  ·unfold Jf
   rw[Qcd W.r']
  ·unfold pAdd
   dsimp only
   rw[Uc hz']
   simp[mkD,List.map_reverse]
 have e2:(Qb (QP [12] "state" (mVar 0)) (Qb (QP [12] "place" (mVar 0)) (Qb (mOp2 pAdd (mOp1 Ym (QP [12] "left_marks" (mVar 0))) (mOp1 Jf (QP [12] "right_marks" (mVar 0)))) mNil))) [some (.ref w)] g=.ok [.int c.st,.int c.pl,.tup (mkD (c.L++c.R.reverse))] g:=Qz (W.state rfl) (Qz (W.place rfl) (Qz e1 rfl))
 unfold mOpA
 show(Qb _ _ [some (.ref w)] g).bind pTup=_
 rw[e2,Res.bind_ok];rfl
noncomputable def c0:Cf:=⟨0,0,[],[]⟩
noncomputable def QbA:D:=.tup [.int 0,.int 0,.tup []]
theorem QlO(t s p l r:D):putG (Str.ofString "right_marks") r (putG (Str.ofString "left_marks") l (putG (Str.ofString "place") p (putG (Str.ofString "state") s (putG (Str.ofString "table") t []))))=Zn t s p l r:=by
 unfold Zn;rw[ZF,ZG,ZH,Qy,Qt];rfl
theorem Jj{cs:List Nat}{f:Str}{e:ME}{σ:S3}{g g1:G}{w c:Nat}{fs:List (Str×D)}{v:D}(he:e σ g=.ok v g1)(hv:σ[0]?=some (some (.ref w)))(h:g1[w]?=some (.ins c fs))(hc:c∈cs)(hl:fs.length<100):QR cs f (mVar 0) e σ g=.nx σ (g1.set w (.ins c (putG f v fs))):=by
 unfold QR mVar
 rw[he]
 dsimp only
 rw[hv]
 dsimp only
 rw[h]
 dsimp only
 rw[Uc ⟨hc,hl⟩]
theorem Qch(f:Str)(v:D):∀fs:List (Str×D),(putG f v fs).length<=fs.length+1
 |[]=>by simp[putG]
 | (k,x)::r=>by
  unfold putG
  split
  ·simp
  ·have:=Qch f v r
   simp;omega
theorem Qf2{it:MI}{n:Nat}{cap:List Nat}{t:MG}{c:MT}{e:ME}{σ:S3}{g:G}{src:Src}(h1:it σ g=.ok src g)(h2:src.top=0)(h3:src.at' g 0=some none):ZO it n cap t c e σ g=.ok (.ref g.length) (g++[.lst []]):=by
 refine JP h1 (by rw[h2];exact TX _) rfl ?_
 rw[h2]
 unfold Y2
 rw[h3]
theorem Qej{rows:List (List D)}{M:Nat}{a:MA}{σ:S3}{g0 g:G}(ha:a σ g0=.ok [.ref M,QbA] g)(hM:g[M]?=some (Qaj rows)):
  ∃w l r g',Qc5 12 YE a σ g0=.ok (.ref w) g'/\cRep rows w l r g' c0/\Keeps [] g g'/\g.length<=w/\g.length<=l/\g.length<=r:=by
 have kp:Keeps [] g (g++[.ins 12 []]):=.push _
 have gw:(g++[.ins 12 []])[g.length]?=some (.ins 12 []):=QD _
 have hMl:M<g.length:=Q0 hM
 have hl1:(g++[GO.ins 12 []]).length=g.length+1:=by simp
 generalize hw:g.length=w at gw hMl hl1
 have kp':=kp
 generalize hg1:g++[GO.ins 12 []]=g1 at gw kp hl1
 have hM1:=kp.at' _ _ (by simp) hM
 have σl:∀x:S3,x=[some (.ref w),some (.ref M),some QbA]->x[0]?=some (some (.ref w)):=λx h=>by rw[h];rfl
 -- table
 have e1:=Jj (cs:=[11,12]) (f:=Str.ofString "table") (e:=QP [11,12] "table" (mVar 1)) (σ:=[some (.ref w),some (.ref M),some QbA]) (QgG rfl hM1) rfl gw (by simp) (by simp)
 have k1:Keeps [w] g1 (g1.set w (.ins 12 (putG (Str.ofString "table") (.tup (rows.map .tup)) []))):=.set _ _
 have gw1:(g1.set w (.ins 12 (putG (Str.ofString "table") (.tup (rows.map .tup)) [])))[w]?=some (.ins 12 (putG (Str.ofString "table") (.tup (rows.map .tup)) [])):=Q3 gw
 have hl2:(g1.set w (.ins 12 (putG (Str.ofString "table") (.tup (rows.map .tup)) []))).length=w+1:=by rw[UR];exact hl1
 generalize g1.set w (.ins 12 (putG (Str.ofString "table") (.tup (rows.map .tup)) []))=g2 at e1 k1 gw1 hl2
 have b1:=Qch (Str.ofString "table") (.tup (rows.map .tup)) []
 generalize hf1:putG (Str.ofString "table") (.tup (rows.map .tup)) []=f1 at gw1 b1
 -- state
 have e2:=Jj (cs:=[12]) (f:=Str.ofString "state") (e:=mOp2 pIx (mVar 2) (mLit (.int 0))) (σ:=[some (.ref w),some (.ref M),some QbA]) (g:=g2) (g1:=g2) (v:=.int 0) rfl rfl gw1 (by simp) (by simp at b1;omega)
 have k2:Keeps [w] g2 (g2.set w (.ins 12 (putG (Str.ofString "state") (.int 0) f1))):=.set _ _
 have gw2:(g2.set w (.ins 12 (putG (Str.ofString "state") (.int 0) f1)))[w]?=some (.ins 12 (putG (Str.ofString "state") (.int 0) f1)):=Q3 gw1
 have hl3:(g2.set w (.ins 12 (putG (Str.ofString "state") (.int 0) f1))).length=w+1:=by rw[UR];exact hl2
 generalize g2.set w (.ins 12 (putG (Str.ofString "state") (.int 0) f1))=g3 at e2 k2 gw2 hl3
 have b2:=Qch (Str.ofString "state") (.int 0) f1
 generalize hf2:putG (Str.ofString "state") (.int 0) f1=f2 at gw2 b2
 -- place
 have e3:=Jj (cs:=[12]) (f:=Str.ofString "place") (e:=mOp2 pIx (mVar 2) (mLit (.int 1))) (σ:=[some (.ref w),some (.ref M),some QbA]) (g:=g3) (g1:=g3) (v:=.int 0) rfl rfl gw2 (by simp) (by simp at b1;omega)
 have k3:Keeps [w] g3 (g3.set w (.ins 12 (putG (Str.ofString "place") (.int 0) f2))):=.set _ _
 have gw3:(g3.set w (.ins 12 (putG (Str.ofString "place") (.int 0) f2)))[w]?=some (.ins 12 (putG (Str.ofString "place") (.int 0) f2)):=Q3 gw2
 have hl4:(g3.set w (.ins 12 (putG (Str.ofString "place") (.int 0) f2))).length=w+1:=by rw[UR];exact hl3
 generalize g3.set w (.ins 12 (putG (Str.ofString "place") (.int 0) f2))=g4 at e3 k3 gw3 hl4
 have b3:=Qch (Str.ofString "place") (.int 0) f2
 generalize hf3:putG (Str.ofString "place") (.int 0) f2=f3 at gw3 b3
 -- left_marks
 have ec:∀{c:MT}{e:ME}(g:G),ZO (QQ (mOp2 pIx (mVar 2) (mLit (.int 2)))) 2 [0] (Yo [(gSet 0),(gSet 1)]) c e [some (.ref w),some (.ref M),some QbA] g=.ok (.ref g.length) (g++[.lst []]):=λ{c e} g=>Qf2 (src:=⟨λ_ i=>some ([]:List D)[i]?,0⟩) rfl rfl rfl
 have er:∀{c:MT}{e:ME}(g:G),ZO (QfO (mOp2 pIx (mVar 2) (mLit (.int 2)))) 2 [0] (Yo [(gSet 0),(gSet 1)]) c e [some (.ref w),some (.ref M),some QbA] g=.ok (.ref g.length) (g++[.lst []]):=λ{c e} g=>Qf2 rfl rfl rfl
 have k5:Keeps [] g4 (g4++[.lst []]):=.push _
 have gl5:(g4++[.lst []])[w+1]?=some (.lst []):=by rw[<-hl4];exact QD _
 have gw5:=k5.at' _ _ (by simp) gw3
 have hl5:(g4++[GO.lst []]).length=w+2:=by rw[UB,hl4];rfl
 have e4:=λ(c:MT)(e:ME)=>Jj (cs:=[12]) (f:=Str.ofString "left_marks") (σ:=[some (.ref w),some (.ref M),some QbA]) (ec (c:=c) (e:=e) g4) rfl gw5 (by simp) (by simp at b1;omega)
 rw[hl4]at e4
 generalize g4++[GO.lst []]=g5 at k5 gl5 gw5 hl5 e4
 have k6:Keeps [w] g5 (g5.set w (.ins 12 (putG (Str.ofString "left_marks") (.ref (w+1)) f3))):=.set _ _
 have gw6:(g5.set w (.ins 12 (putG (Str.ofString "left_marks") (.ref (w+1)) f3)))[w]?=some (.ins 12 (putG (Str.ofString "left_marks") (.ref (w+1)) f3)):=Q3 gw5
 have gl6:=k6.at' (w+1) _ (by simp) gl5
 have hl6:(g5.set w (.ins 12 (putG (Str.ofString "left_marks") (.ref (w+1)) f3))).length=w+2:=by rw[UR];exact hl5
 generalize g5.set w (.ins 12 (putG (Str.ofString "left_marks") (.ref (w+1)) f3))=g6 at k6 gw6 gl6 hl6 e4
 have b4:=Qch (Str.ofString "left_marks") (.ref (w+1)) f3
 generalize hf4:putG (Str.ofString "left_marks") (.ref (w+1)) f3=f4 at gw6 b4
 -- right_marks
 have k7:Keeps [] g6 (g6++[.lst []]):=.push _
 have gr7:(g6++[.lst []])[w+2]?=some (.lst []):=by rw[<-hl6];exact QD _
 have gw7:=k7.at' _ _ (by simp) gw6
 have gl7:=k7.at' _ _ (by simp) gl6
 have e5:=λ(c:MT)(e:ME)=>Jj (cs:=[12]) (f:=Str.ofString "right_marks") (σ:=[some (.ref w),some (.ref M),some QbA]) (er (c:=c) (e:=e) g6) rfl gw7 (by simp) (by simp at b1;omega)
 rw[hl6]at e5
 generalize g6++[GO.lst []]=g7 at k7 gr7 gw7 gl7 e5
 have k8:Keeps [w] g7 (g7.set w (.ins 12 (putG (Str.ofString "right_marks") (.ref (w+2)) f4))):=.set _ _
 refine⟨w,w+1,w+2,g7.set w (.ins 12 (putG (Str.ofString "right_marks") (.ref (w+2)) f4)),?_,⟨?_,k8.at' _ _ (by simp) gl7,k8.at' _ _ (by simp) gr7,by omega,by omega,by omega⟩,?_,by omega,by omega,by omega⟩
 ·have:YE [.ref w,.ref M,QbA] g1=.ok .non (g7.set w (.ins 12 (putG (Str.ofString "right_marks") (.ref (w+2)) f4))):=by
   refine Qeg (σ:=[some (.ref w),some (.ref M),some QbA]) rfl ?_
   show Qav [some (.ref w),some (.ref M),some QbA] g1=_
   unfold Qav
   exact Qg _ _ e1 (Qg _ _ e2 (Qg _ _ e3 (Qg _ _ (e4 _ _) (e5 _ _))))
  unfold Qc5
  rw[ha,Res.bind_ok,hw,hg1,this,Res.bind_ok]
 ·rw[Q3 gw7,<-hf4,<-hf3,<-hf2,<-hf1,QlO];rfl
 ·have kk:Keeps [w] g1 (g7.set w (.ins 12 (putG (Str.ofString "right_marks") (.ref (w+2)) f4))):=k1.trans (k2.trans (k3.trans (k5.all.trans (k6.trans (k7.all.trans k8)))))
  refine⟨Ux kp.len kk.len,λb o hb eb=>?_⟩
  have:b<w:=by rw[<-hw];exact Q0 eb
  exact kk.at' b o (by simp;omega) (kp.at' b o hb eb)
theorem ok0{rows:List (List D)}{n m:Nat}(T:Tb rows n m):OkC n m c0:=⟨T.n0,λp hp=>(Tn hp).elim,λp hp=>(Tn hp).elim⟩
theorem KW.old{w l r:Nat}{g0 g g':G}(k:KW w l r g g')(k0:Keeps [] g0 g)(h1:g0.length<=w)(h2:g0.length<=l)(h3:g0.length<=r):Keeps [] g0 g' :=
 ⟨Ux k0.len k.len,λb o hb eb=>by
  have:b<g0.length:=Q0 eb
  exact k.at' b o (by simp;omega) (k0.at' b o hb eb)⟩
noncomputable abbrev Mk':=List (Int×Nat)
noncomputable def Qk(c:Cf):Mk':=c.L++c.R.reverse
noncomputable def Jk(M:Mk')(x:Int)(s:Nat):Mk':=M.filter (λp=>decide (p.1<x))++(if s=0 then [] else [(x,s)])++M.filter (λp=>decide (x<p.1))
def rdP(M:Mk')(x:Int)(s:Nat):Prop:=(s≠0/\(x,s)∈M)\/(s=0/\∀p∈M,p.1≠x)
structure Good(c:Cf):Prop where
 up:(Qk c).Pairwise λa b=>a.1<b.1
 nz:∀p∈Qk c,p.2≠0
 lt:∀p∈c.L,p.1<c.pl
 ge:∀p∈c.R,c.pl<=p.1
theorem Qnv{M:Mk'}(h:M.Pairwise λa b=>a.1<b.1){x:Int}{s t:Nat}(hs:(x,s)∈M)(ht:(x,t)∈M):s=t:=by
 induction M with
 |nil=>cases hs
 |cons p r ih =>
  have h':=US.mp h
  rcases Uu.mp hs with e1|hs
  ·rcases Uu.mp ht with e2|ht
   ·have:=e1.trans e2.symm;injection this
   ·have:=h'.1 _ ht
    rw[<-e1]at this
    exact absurd this (Rv _)
  ·rcases Uu.mp ht with e2|ht
   ·have:=h'.1 _ hs
    rw[<-e2]at this
    exact absurd this (Rv _)
   ·exact ih h'.2 hs ht
theorem rdP.fun{M:Mk'}(h:M.Pairwise λa b=>a.1<b.1){x:Int}{s t:Nat}(hs:rdP M x s)(ht:rdP M x t):s=t:=by
 rcases hs with⟨a,b⟩|⟨a,b⟩
 ·rcases ht with⟨c,d⟩|⟨c,d⟩
  ·exact Qnv h b d
  ·exact absurd rfl (d _ b)
 ·rcases ht with⟨c,d⟩|⟨c,d⟩
  ·exact absurd rfl (b _ d)
  ·rw[a,c]
theorem QbM{α:Type}{l:List α}{x:α}(h:l.getLast?=some x):l.dropLast++[x]=l:=by
 obtain⟨ys,rfl⟩:=List.getLast?_eq_some_iff.mp h
 simp
theorem Jl{R:Mk'}{x:Int}{s:Nat}(h:Qu R x=some s):R.reverse=(x,s)::R.dropLast.reverse:=by
 have:=JR h
 have hne:R≠[]:=λz=>by rw[z]at this;cases this
 have e:R.dropLast++[(x,s)]=R:=by
  exact QbM this
 rw[<-e];simp
theorem Qff{R:Mk'}{x:Int}(h:Qu R x=none)(hu:R.reverse.Pairwise λa b=>a.1<b.1)(hg:∀p∈R,x<=p.1):∀p∈R,x<p.1:=by
 intro p hp
 cases hq:R.getLast? with
 |none =>
  have:R=[]:=by simpa using hq
  rw[this]at hp;cases hp
 |some y =>
  have hne:y.1≠x:=λz=>by
   unfold Qu at h
   rw[hq]at h
   obtain⟨y1,y2⟩:=y
   dsimp only at h z
   rw[Uc z]at h
   cases h
  have hy:y∈R:=TN hq
  have hyx:x<y.1:=by have:=hg y hy;omega
  have e:R.dropLast++[y]=R:=QbM hq
  rw[<-e,List.reverse_append]at hu
  have hu':=(US.mp hu).1
  rw[<-e]at hp
  rcases Uz.mp hp with z|z
  ·have:=hu' p (TB.mpr z)
   omega
  ·rw[Uf.mp z];exact hyx
theorem Good.rd{c:Cf}(h:Good c):rdP (Qk c) c.pl ((Qu c.R c.pl).getD 0):=by
 have hu:=(U5.mp h.up).2.1
 cases e:Qu c.R c.pl with
 |some s =>
  have hm:(c.pl,s)∈Qk c:=Uv _ (by rw[Jl e];exact Ur ..)
  exact .inl ⟨h.nz _ hm,hm⟩
 |none =>
  refine .inr ⟨rfl,λp hp=>?_⟩
  rcases Uz.mp hp with z|z
  ·have:=h.lt p z;omega
  ·have:=Qff e hu h.ge p (TB.mp z);omega
theorem Qbe{M:Mk'}{f:Int×Nat->Bool}(h:∀p∈M,f p=true):M.filter f=M:=List.filter_eq_self.mpr h
theorem Qek{M:Mk'}{f:Int×Nat->Bool}(h:∀p∈M,f p=false):M.filter f=[]:=List.filter_eq_nil_iff.mpr λp hp=>by rw[h p hp];simp
theorem Good.cut{c:Cf}(h:Good c):(∀p∈Zp c.R c.pl,c.pl<p.1)/\(Qk c).filter (λp=>decide (p.1<c.pl))=c.L/\(Qk c).filter (λp=>decide (c.pl<p.1))=(Zp c.R c.pl).reverse:=by
 have hu:=(U5.mp h.up).2.1
 have hc:∀p∈Zp c.R c.pl,c.pl<p.1:=by
  unfold Zp
  cases e:Qu c.R c.pl with
  |none=>exact λp hp=>Qff e hu h.ge p hp
  |some s =>
   rw[Jl e]at hu
   have:=(US.mp hu).1
   exact λp hp=>this p (TB.mpr hp)
 refine⟨hc,?_,?_⟩
 ·unfold Qk
  rw[T9,Qbe (λp hp=>Us (h.lt p hp)),Qek (λp hp=>Uq (by have:=h.ge p (TB.mp hp);omega)),U6]
 ·unfold Qk
  rw[T9,Qek (λp hp=>Uq (by have:=h.lt p hp;omega)),List.nil_append]
  unfold Zp at hc ⊢
  cases e:Qu c.R c.pl with
  |none =>
   rw[e]at hc
   exact Qbe λp hp=>Us (hc p (TB.mp hp))
  |some s =>
   rw[e]at hc
   rw[Jl e,U8]
   show(if decide (c.pl<c.pl)=true then _ else _)=_
   rw[Uh (by simp)]
   exact Qbe λp hp=>Us (hc p (TB.mp hp))
theorem Qin{c:Cf}{s:Nat}(h:Good c):c.L++(wrt c.R c.pl s).reverse=Jk (Qk c) c.pl s:=by
 obtain⟨_,h2,h3⟩:=h.cut
 unfold Jk wrt
 rw[h2,h3,List.reverse_append,List.append_assoc]
 congr 1
 split <;> simp
theorem QgL{c:Cf}{s:Nat}(h:Good c):(Jk (Qk c) c.pl s).Pairwise (λa b=>a.1<b.1)/\(∀p∈Jk (Qk c) c.pl s,p.2≠0)/\(∀p∈wrt c.R c.pl s,c.pl<=p.1):=by
 obtain⟨hc,h2,h3⟩:=h.cut
 refine⟨?_,?_,?_⟩
 ·unfold Jk
  rw[U5,U5]
  refine⟨⟨h.up.filter _,by split <;> simp,λa ha b hb=>?_⟩,h.up.filter _,λa ha b hb=>?_⟩
  ·split at hb
   ·cases hb
   ·rw[Uf.mp hb]
    exact UI (UL.mp ha).2
  ·have hb':c.pl<b.1:=UI (UL.mp hb).2
   rcases Uz.mp ha with z|z
   ·have:a.1<c.pl:=UI (UL.mp z).2
    omega
   ·split at z
    ·cases z
    ·rw[Uf.mp z];exact hb'
 ·intro p hp
  unfold Jk at hp
  rcases Uz.mp hp with z|z
  ·rcases Uz.mp z with z|z
   ·exact h.nz p (UL.mp z).1
   ·split at z
    ·cases z
    ·rename_i hs
     rw[Uf.mp z];exact hs
  ·exact h.nz p (UL.mp z).1
 ·intro p hp
  unfold wrt at hp
  rcases Uz.mp hp with z|z
  ·exact Int.le_of_lt (hc p z)
  ·split at z
   ·cases z
   ·rw[Uf.mp z];exact Rf _
theorem QgM{c c':Cf}{a b:Int}{y:Str}(h:Good c)(hg:(goL (.tup [.int a,.str y,.int b]) c.pl c.L c.R).map (λx=>(⟨x.1,x.2.1,x.2.2.1,x.2.2.2⟩:Cf))=some c'):
  c'.st=b.toNat/\c'.pl=(if y=rS then c.pl+1 else c.pl-1)/\Qk c'=Jk (Qk c) c.pl a.toNat/\Good c':=by
 obtain⟨u1,u2,u3⟩:=QgL (s:=a.toNat) h
 have hm:=Qin (s:=a.toNat) h
 have hLm:∀p∈c.L,p∈Jk (Qk c) c.pl a.toNat:=λp hp=>by rw[<-hm];exact UQ _ hp
 have hRu:(wrt c.R c.pl a.toNat).reverse.Pairwise λa b=>a.1<b.1:=by rw[<-hm]at u1;exact(U5.mp u1).2.1
 have hLu:c.L.Pairwise λa b=>a.1<b.1:=by rw[<-hm]at u1;exact(U5.mp u1).1
 unfold goL at hg
 dsimp only at hg
 by_cases hy:y=rS
 ·rw[Uc hy]at hg
  cases hg
  have em:Yj c.L c.pl (Qu (wrt c.R c.pl a.toNat) c.pl)++(Zp (wrt c.R c.pl a.toNat) c.pl).reverse=Jk (Qk c) c.pl a.toNat:=by
   rw[<-hm]
   unfold Zp
   cases e:Qu (wrt c.R c.pl a.toNat) c.pl with
   |none=>simp[Yj]
   |some s=>rw[Jl e];simp[Yj]
  refine⟨rfl,by rw[Uc hy],em,⟨by show(Yj _ _ _++_).Pairwise _;rw[em];exact u1,by show ∀p∈Yj _ _ _++_,_;rw[em];exact u2,λp hp=>?_,λp hp=>?_⟩⟩
  ·have hp:p∈Yj c.L c.pl (Qu (wrt c.R c.pl a.toNat) c.pl):=hp
   show p.1<c.pl+1
   cases e:Qu (wrt c.R c.pl a.toNat) c.pl with
   |none=>rw[e]at hp;have:=h.lt p hp;omega
   |some s =>
    rw[e]at hp
    rcases Uz.mp hp with z|z
    ·have:=h.lt p z;omega
    ·rw[Uf.mp z];show c.pl<c.pl+1;omega
  ·have hp:p∈Zp (wrt c.R c.pl a.toNat) c.pl:=hp
   show c.pl+1<=p.1
   have:c.pl<p.1:=by
    unfold Zp at hp
    cases e:Qu (wrt c.R c.pl a.toNat) c.pl with
    |none=>rw[e]at hp;exact Qff e hRu u3 p hp
    |some s =>
     rw[e]at hp
     rw[Jl e]at hRu
     exact(US.mp hRu).1 p (TB.mpr hp)
   omega
 ·rw[Uh hy]at hg
  cases hg
  have hdrop:∀s,Qu c.L (c.pl-1)=some s->c.L.dropLast++[(c.pl-1,s)]=c.L:=λs e=>QbM (JR e)
  have em:Zp c.L (c.pl-1)++(Yj (wrt c.R c.pl a.toNat) (c.pl-1) (Qu c.L (c.pl-1))).reverse=Jk (Qk c) c.pl a.toNat:=by
   rw[<-hm]
   unfold Zp
   cases e:Qu c.L (c.pl-1) with
   |none=>simp[Yj]
   |some s =>
    conv=>rhs;rw[<-hdrop s e]
    simp[Yj]
  refine⟨rfl,by rw[Uh hy],em,⟨by show(Zp _ _++_).Pairwise _;rw[em];exact u1,by show ∀p∈Zp _ _++_,_;rw[em];exact u2,λp hp=>?_,λp hp=>?_⟩⟩
  ·have hp:p∈Zp c.L (c.pl-1):=hp
   show p.1<c.pl-1
   unfold Zp at hp
   cases e:Qu c.L (c.pl-1) with
   |some s =>
    rw[e]at hp
    have hu:=hLu
    rw[<-hdrop s e]at hu
    exact(U5.mp hu).2.2 p hp _ (Wa _)
   |none =>
    rw[e]at hp
    have hp:p∈c.L:=hp
    have h1:=h.lt p hp
    cases hq:c.L.getLast? with
    |none =>
     have:c.L=[]:=by simpa using hq
     rw[this]at hp;cases hp
    |some z =>
     have hz:=h.lt z (TN hq)
     have hne:z.1≠c.pl-1:=λw=>by
      unfold Qu at e
      rw[hq]at e
      obtain⟨z1,z2⟩:=z
      dsimp only at e w
      rw[Uc w]at e
      cases e
     have ee:c.L.dropLast++[z]=c.L:=QbM hq
     have hu:=hLu
     rw[<-ee]at hu hp
     rcases Uz.mp hp with q|q
     ·have:=(U5.mp hu).2.2 p q _ (Wa _)
      omega
     ·rw[Uf.mp q];omega
  ·have hp:p∈Yj (wrt c.R c.pl a.toNat) (c.pl-1) (Qu c.L (c.pl-1)):=hp
   show c.pl-1<=p.1
   cases e:Qu c.L (c.pl-1) with
   |none=>rw[e]at hp;have:=u3 p hp;omega
   |some s =>
    rw[e]at hp
    rcases Uz.mp hp with z|z
    ·have:=u3 p z;omega
    ·rw[Uf.mp z];exact Rf _
theorem Qod:Good c0:=⟨.nil,λp hp=>(Tn hp).elim,λp hp=>(Tn hp).elim,λp hp=>(Tn hp).elim⟩
theorem Qel{rows:List (List D)}{n m:Nat}{c:Cf}(T:Tb rows n m)(ho:OkC n m c)(hg:Good c):
  (Qfc rows c.st ((Qu c.R c.pl).getD 0)=some .non/\Q5 rows c=none)\/∃(a b:Int)(y:Str)(c':Cf),Qfc rows c.st ((Qu c.R c.pl).getD 0)=some (.tup [.int a,.str y,.int b])/\0<=a/\a<m/\0<=b/\b<n/\(y=lS\/y=rS)/\Q5 rows c=some c'/\c'.st=b.toNat/\c'.pl=(if y=rS then c.pl+1 else c.pl-1)/\Qk c'=Jk (Qk c) c.pl a.toNat/\Good c'/\OkC n m c':=by
 obtain⟨row,d,hr,hdd,hent,hat⟩:=T.at ho.st (ho.sg T.m0)
 rcases id hent with rfl|⟨a,b,y,rfl,a1,a2,b1,b2,yy⟩
 ·exact .inl ⟨hat,by unfold Q5;rw[hat];rfl⟩
 ·right
  have hs:∃c',Q5 rows c=some c'/\(goL (.tup [.int a,.str y,.int b]) c.pl c.L c.R).map (λx=>(⟨x.1,x.2.1,x.2.2.1,x.2.2.2⟩:Cf))=some c':=by
   refine⟨_,?_,rfl⟩
   unfold Q5;rw[hat];rfl
  obtain⟨c',h1,h2⟩:=hs
  obtain⟨e1,e2,e3,e4⟩:=QgM hg h2
  exact⟨a,b,y,c',hat,a1,a2,b1,b2,yy,h1,e1,e2,e3,e4,(Qfe (rows:=rows) ho hent h2).1⟩
theorem Qf3(k j:DK)(v:D):∀ks:List (DK×D),dGet (ks.map λp=>if p.1=k then (p.1,v) else p) j=(dGet ks j).map λx=>if j=k then v else x
 |[]=>rfl
 |p::r=>by
  have ih:=Qf3 k j v r
  unfold dGet at ih ⊢
  rw[UH,UA,UA]
  by_cases h:p.1=j
  ·have e:decide ((if p.1=k then (p.1,v) else p).1=j)=true:=by split <;> exact Us h
   rw[e,Us h]
   subst h
   by_cases hk:p.1=k <;> simp[hk]
  ·have e:decide ((if p.1=k then (p.1,v) else p).1=j)=false:=by split <;> exact Uq h
   rw[e,Uq h]
   exact ih
theorem Qdt(k:DK):∀ks:List (DK×D),(ks.any λp=>decide (p.1=k))=(dGet ks k).isSome
 |[]=>rfl
 |p::r=>by
  have ih:=Qdt k r
  unfold dGet at ih ⊢
  rw[Tz,UA]
  by_cases h:p.1=k
  ·rw[Us h];rfl
  ·rw[Uq h];exact ih
theorem Qf4(k j:DK)(v:D):∀ks:List (DK×D),dGet ks k=none->dGet (ks++[(k,v)]) j=if j=k then some v else dGet ks j
 |[],_=>by
  unfold dGet
  by_cases h:j=k
  ·subst h;simp
  ·simp[h,Ne.symm h]
 |p::r,hn=>by
  have hp:¬p.1=k:=λh=>by unfold dGet at hn;rw[UA,Us h]at hn;cases hn
  have hr:dGet r k=none:=by unfold dGet at hn ⊢;rw[UA,Uq hp]at hn;exact hn
  have ih:=Qf4 k j v r hr
  unfold dGet at ih ⊢
  rw[List.cons_append,UA,UA]
  by_cases h:p.1=j
  ·rw[Us h,Uh (λz=>hp (h.trans z))]
  ·rw[Uq h];exact ih
theorem Qdu(ks:List (DK×D))(k j:DK)(v:D):dGet (dPut ks k v) j=if j=k then some v else dGet ks j:=by
 unfold dPut
 rw[Qdt]
 cases h:dGet ks k with
 |none=>rw[Uh (by simp)];exact Qf4 k j v ks h
 |some x =>
  rw[Uc (show(some x).isSome=true from rfl),Qf3]
  by_cases e:j=k
  ·subst e;rw[h];simp
  ·simp[e]
theorem Qem(k j:DK):∀ks:List (DK×D),dGet (Qbz ks k) j=if j=k then none else dGet ks j
 |[]=>by unfold dGet Qbz;split <;> rfl
 |p::r=>by
  have ih:=Qem k j r
  unfold dGet Qbz at ih ⊢
  rw[U8]
  by_cases h:p.1=k
  ·rw[Uh (by simp[h]),ih,UA]
   by_cases e:j=k
   ·rw[Uc e,Uc e]
   ·rw[Uh e,Uh e,Uq (λz=>e (z.symm.trans h))]
  ·rw[Uc (by simp[h]),UA,UA]
   by_cases e:p.1=j
   ·rw[Us e,Uh (λz=>h (e.trans z))]
   ·rw[Uq e];exact ih
theorem Qf5(ks:List (DK×D))(k:DK)(v:D):(dPut ks k v).length<=ks.length+1:=by
 unfold dPut;split <;> simp
theorem Qio(ks:List (DK×D))(k:DK):(Qbz ks k).length<=ks.length:=WA _ _
def Qip(ks:List (DK×D))(M:Mk'):Prop:=∀(x:Int)(s:Nat),rdP M x s->(dGet ks (.inl x)).getD (.int 0)=.int (s:Nat)
noncomputable def putC(ks:List (DK×D))(x:Int)(a:Int):List (DK×D):=if a=0 then Qbz (dPut ks (.inl x) (.int a)) (.inl x) else dPut ks (.inl x) (.int a)
theorem QjV(ks:List (DK×D))(x a:Int):(putC ks x a).length<=ks.length+1:=by
 unfold putC
 split
 ·exact Ux (Qio _ _) (Qf5 _ _ _)
 ·exact Qf5 _ _ _
def tabB(B:Nat)(g:G)(t:Nat)(rows:List (List D)):Prop:=t<B/\∃ds,g[t]?=some (.lst ds)/\∀(i:Nat)(row:List D),rows[i]?=some row->∃n,n<B/\ds[i]?=some (.ref n)/\g[n]?=some (.lst row)
theorem tabOf.b{N:Nat}{g:G}{t:Nat}{rows:List (List D)}(h:tabOf N g t rows):tabB g.length g t rows:=by
 obtain⟨_,ds,h1,h2,h3⟩:=h
 refine⟨Q0 h1,ds,h1,λi row hr=>?_⟩
 have hi:i<ds.length:=by rw[h2];exact(Ue.mp hr).1
 obtain⟨n,e,_,_,hn⟩:=h3 i ds[i] row (by simp) hr
 exact⟨n,Q0 hn,by rw[<-e];simp,hn⟩
theorem tabB.mono{B:Nat}{S:List Nat}{g g1:G}{t:Nat}{rows:List (List D)}(h:tabB B g t rows)(k:Keeps S g g1)(hS:∀n∈S,B<=n):tabB B g1 t rows:=by
 obtain⟨h0,ds,h1,h2⟩:=h
 refine⟨h0,ds,k.at' _ _ (λz=>by have:=hS _ z;omega) h1,λi row hr=>?_⟩
 obtain⟨n,a,b,c⟩:=h2 i row hr
 exact⟨n,a,b,k.at' _ _ (λz=>by have:=hS _ z;omega) c⟩
theorem tabB.up{B C:Nat}{g:G}{t:Nat}{rows:List (List D)}(h:tabB B g t rows)(hc:B<=C):tabB C g t rows:=by
 obtain⟨h0,ds,h1,h2⟩:=h
 refine⟨by omega,ds,h1,λi row hr=>?_⟩
 obtain⟨n,a,b,c⟩:=h2 i row hr
 exact⟨n,by omega,b,c⟩
noncomputable def Qm(c:Cf)(d:Nat):D:=.tup [.int c.st,.int c.pl,.ref d]
theorem QjW{rows:List (List D)}{n m B t d:Nat}{c:Cf}{ks:List (DK×D)}{g:G}(T:Tb rows n m)(hT:tabB B g t rows)(ho:OkC n m c)(hg:Good c)(hd:g[d]?=some (.dct ks))(hc:Qip ks (Qk c))(hz:ks.length<1000):
  (Q5 rows c=none/\Qad [.ref t,Qm c d] g=.ok .non g)\/∃c' ks' g',Q5 rows c=some c'/\OkC n m c'/\Good c'/\Qad [.ref t,Qm c d] g=.ok (Qm c' g.length) g'/\Keeps [] g g'/\g'[g.length]?=some (.dct ks')/\∃a:Int,0<=a/\ks'=putC ks c.pl a/\Qk c'=Jk (Qk c) c.pl a.toNat:=by
 obtain⟨row,e,hr,he,hent,hat⟩:=T.at ho.st (ho.sg T.m0)
 obtain⟨_,ds,ht,hrows⟩:=hT
 obtain⟨rn,_,hrn,hrow⟩:=hrows _ _ hr
 have hget:Qal (mVar 4) (mVar 3) (mLit (.int 0)) [some (.ref t),some (Qm c d),some (.int c.st),some (.int c.pl),some (.ref d),none,none] g=.ok (.int (((Qu c.R c.pl).getD 0:Nat):Int)) g:=by
  have:=hc _ _ hg.rd
  show(match g[d]? with
   |some (.dct _)=>(Res.ok (D.int c.pl) g).bind λy g2=>(Res.ok (D.int 0) g2).bind λz g3=>(match y with
    |.int i=>(match g3[d]? with
     |some (.dct ks)=>Res.ok ((dGet ks (.inl i)).getD z) g3
     |_=>.stuck)
    |_=>.stuck)
   |_=>.stuck)=_
  rw[hd]
  dsimp only
  rw[Res.bind_ok,Res.bind_ok]
  dsimp only
  rw[hd]
  dsimp only
  rw[this]
 have hent':mOp2 pIx (mOp2 pIx (mVar 0) (mVar 2)) (Qal (mVar 4) (mVar 3) (mLit (.int 0))) [some (.ref t),some (Qm c d),some (.int c.st),some (.int c.pl),some (.ref d),none,none] g=.ok e g :=
  Qn (x:=.ref rn) (g1:=g) (Qn (x:=.ref t) (y:=.int c.st) (g1:=g) (g2:=g) rfl rfl (JQ ht hrn)) hget (JQ hrow he)
 have hstart:Qad [.ref t,Qm c d] g=mDef 2 5 Qac [.ref t,Qm c d] g:=rfl
 rcases Qel T ho hg with⟨h1,h2⟩|⟨a,b,y,c',h1,a0,am,b0,bn,yy,h2,e1,e2,e3,e4,e5⟩
 ·left
  rw[hat]at h1
  injection h1 with h1
  subst h1
  refine⟨h2,QJ rfl ?_⟩
  show Qac [some (.ref t),some (Qm c d),none,none,none,none,none] g=_
  unfold Qac
  exact Qg [some (.ref t),some (Qm c d),some (.int c.st),some (.int c.pl),some (.ref d),none,none] g rfl (Qg [some (.ref t),some (Qm c d),some (.int c.st),some (.int c.pl),some (.ref d),some .non,none] g (Qw hent') (ZL rfl))
 ·right
  rw[hat]at h1
  injection h1 with h1
  subst h1
  have k1:Keeps [] g (g++[GO.dct ks]):=.push _
  have g1d:(g++[GO.dct ks])[g.length]?=some (.dct ks):=QD _
  have hstr:pEq (.str y) (.str "r")=λg=>.ok (.bl (decide (y=rS))) g:=by
   funext g
   rcases yy with rfl|rfl <;> rfl
  have fin:∀(ks':List (DK×D))(g2:G),Keeps [] g g2->g2[g.length]?=some (.dct ks')->ks'=putC ks c.pl a ->
    mSeq (mIf (Qf (mOp2 pEq (mOp2 pIx (mVar 5) (mLit (.int 1))) (mLit (.str "r")))) (mRet (mOpA pTup (Qb (mOp2 pIx (mVar 5) (mLit (.int 2))) (Qb (mOp2 pAdd (mVar 3) (mLit (.int 1))) (Qb (mVar 6) mNil))))) QN) (mRet (mOpA pTup (Qb (mOp2 pIx (mVar 5) (mLit (.int 2))) (Qb (mOp2 pSub (mVar 3) (mLit (.int 1))) (Qb (mVar 6) mNil))))) [some (.ref t),some (Qm c d),some (.int c.st),some (.int c.pl),some (.ref d),some (.tup [.int a,.str y,.int b]),some (.ref g.length)] g2=.rt (Qm c' g.length) g2:=λks' g2 _ _ _=>by
   have t1:Qf (mOp2 pEq (mOp2 pIx (mVar 5) (mLit (.int 1))) (mLit (.str "r"))) [some (.ref t),some (Qm c d),some (.int c.st),some (.int c.pl),some (.ref d),some (.tup [.int a,.str y,.int b]),some (.ref g.length)] g2=.ok (decide (y=rS)) g2:=QB (Qn (x:=.str y) (g1:=g2) (g2:=g2) rfl rfl (by rw[hstr]))
   have hb:D.int ((c'.st:Nat):Int)=.int b:=by rw[e1,T4 b0]
   by_cases z:y=rS
   ·rw[Us z]at t1
    refine ZL (ift g2 t1 (ZE ?_))
    unfold Qm
    rw[hb,e2,Uc z]
    rfl
   ·rw[Uq z]at t1
    refine Qg _ g2 (iff' g2 t1 rfl) (ZE ?_)
    unfold Qm
    rw[hb,e2,Uh z]
    rfl
  have hput:Qjr (mVar 6) (mVar 3) (mOp2 pIx (mVar 5) (mLit (.int 0))) [some (.ref t),some (Qm c d),some (.int c.st),some (.int c.pl),some (.ref d),some (.tup [.int a,.str y,.int b]),some (.ref g.length)] (g++[GO.dct ks])=.nx [some (.ref t),some (Qm c d),some (.int c.st),some (.int c.pl),some (.ref d),some (.tup [.int a,.str y,.int b]),some (.ref g.length)] ((g++[GO.dct ks]).set g.length (GO.dct (dPut ks (.inl c.pl) (.int a)))):=by
   show(match (g++[GO.dct ks])[g.length]? with
    |some (.dct ks1)=>if ks1.length<SZ then Out.nx _ ((g++[GO.dct ks]).set g.length (GO.dct (dPut ks1 (.inl c.pl) (.int a)))) else .stuck
    |_=>.stuck)=_
   rw[g1d]
   dsimp only
   rw[Uc (Uw hz (by decide))]
  have k2:Keeps [] g ((g++[GO.dct ks]).set g.length (GO.dct (dPut ks (.inl c.pl) (.int a)))):=⟨by simp,λi o _ h=>by rw[Ui (by have:=Q0 h;omega)];exact k1.at' _ _ (by simp) h⟩
  have g2d:((g++[GO.dct ks]).set g.length (GO.dct (dPut ks (.inl c.pl) (.int a))))[g.length]?=some (GO.dct (dPut ks (.inl c.pl) (.int a))):=Q3 g1d
  have pre:∀(g3:G),mSeq (mIf (Qf (mOp2 pEq (mOp2 pIx (mVar 5) (mLit (.int 0))) (mLit (.int 0)))) (Z7 (Qjq (mVar 6) (mVar 3))) QN) (mSeq (mIf (Qf (mOp2 pEq (mOp2 pIx (mVar 5) (mLit (.int 1))) (mLit (.str "r")))) (mRet (mOpA pTup (Qb (mOp2 pIx (mVar 5) (mLit (.int 2))) (Qb (mOp2 pAdd (mVar 3) (mLit (.int 1))) (Qb (mVar 6) mNil))))) QN) (mRet (mOpA pTup (Qb (mOp2 pIx (mVar 5) (mLit (.int 2))) (Qb (mOp2 pSub (mVar 3) (mLit (.int 1))) (Qb (mVar 6) mNil)))))) [some (.ref t),some (Qm c d),some (.int c.st),some (.int c.pl),some (.ref d),some (.tup [.int a,.str y,.int b]),some (.ref g.length)] ((g++[GO.dct ks]).set g.length (GO.dct (dPut ks (.inl c.pl) (.int a))))=.rt (Qm c' g.length) g3 ->
    Qad [.ref t,Qm c d] g=.ok (Qm c' g.length) g3:=λg3 h=>by
   refine QJ rfl ?_
   show Qac [some (.ref t),some (Qm c d),none,none,none,none,none] g=_
   unfold Qac
   refine Qg [some (.ref t),some (Qm c d),some (.int c.st),some (.int c.pl),some (.ref d),none,none] g rfl (Qg [some (.ref t),some (Qm c d),some (.int c.st),some (.int c.pl),some (.ref d),some (.tup [.int a,.str y,.int b]),none] g (Qw hent') (Qg [some (.ref t),some (Qm c d),some (.int c.st),some (.int c.pl),some (.ref d),some (.tup [.int a,.str y,.int b]),none] g rfl (Qg [some (.ref t),some (Qm c d),some (.int c.st),some (.int c.pl),some (.ref d),some (.tup [.int a,.str y,.int b]),some (.ref g.length)] (g++[GO.dct ks]) (Qw (ZW (x:=.ref d) (g1:=g) rfl ?_)) (Qg _ _ hput h))))
   unfold Qjp;dsimp only;rw[hd]
  have t0:Qf (mOp2 pEq (mOp2 pIx (mVar 5) (mLit (.int 0))) (mLit (.int 0))) [some (.ref t),some (Qm c d),some (.int c.st),some (.int c.pl),some (.ref d),some (.tup [.int a,.str y,.int b]),some (.ref g.length)] ((g++[GO.dct ks]).set g.length (GO.dct (dPut ks (.inl c.pl) (.int a))))=.ok (a == 0) ((g++[GO.dct ks]).set g.length (GO.dct (dPut ks (.inl c.pl) (.int a)))):=rfl
  generalize (g++[GO.dct ks]).set g.length (GO.dct (dPut ks (.inl c.pl) (.int a)))=g2 at hput k2 g2d pre t0
  by_cases z:a=0
  ·have hpc:putC ks c.pl a=Qbz (dPut ks (.inl c.pl) (.int a)) (.inl c.pl):=by unfold putC;rw[Uc z]
   have hpop:Qjq (mVar 6) (mVar 3) [some (.ref t),some (Qm c d),some (.int c.st),some (.int c.pl),some (.ref d),some (.tup [.int a,.str y,.int b]),some (.ref g.length)] g2=.ok (.int a) (g2.set g.length (GO.dct (putC ks c.pl a))):=by
    show(match g2[g.length]? with
     |some (.dct _)=>(Res.ok (D.int c.pl) g2).bind λy g2=>(match y with
      |.int i=>(match g2[g.length]? with
       |some (.dct ks)=>(match dGet ks (.inl i) with
        |some v=>Res.ok v (g2.set g.length (.dct (Qbz ks (.inl i))))
        |none=>.stuck)
       |_=>.stuck)
      |_=>.stuck)
     |_=>.stuck)=_
    rw[g2d]
    dsimp only
    rw[Res.bind_ok]
    dsimp only
    rw[g2d]
    dsimp only
    rw[Qdu,Uc rfl,hpc]
   have k3:Keeps [] g (g2.set g.length (GO.dct (putC ks c.pl a))):=⟨by simp;exact k2.len,λi o _ h=>by rw[Ui (by have:=Q0 h;omega)];exact k2.at' _ _ (by simp) h⟩
   have g3d:(g2.set g.length (GO.dct (putC ks c.pl a)))[g.length]?=some (GO.dct (putC ks c.pl a)):=Q3 g2d
   refine⟨c',_,_,h2,e5,e4,pre _ (Qg _ _ (ift g2 (by rw[t0];rw[z];rfl) (JM hpop)) (fin _ _ k3 g3d rfl)),k3,g3d,a,a0,rfl,e3⟩
  ·have hpc:putC ks c.pl a=dPut ks (.inl c.pl) (.int a):=by unfold putC;rw[Uh z]
   rw[<-hpc]at g2d
   refine⟨c',_,_,h2,e5,e4,pre _ (Qg _ _ (iff' g2 (by rw[t0];rw[T7 z]) rfl) (fin _ _ k2 g2d rfl)),k2,g2d,a,a0,rfl,e3⟩
abbrev Up(M:Mk'):Prop:=M.Pairwise λa b=>a.1<b.1
noncomputable def sg:Mk'->Int->Nat
 |[],_=>0
 |p::r,x=>if p.1=x then p.2 else sg r x
theorem QgN{M:Mk'}(hn:∀p∈M,p.2≠0)(x:Int):rdP M x (sg M x):=by
 induction M with
 |nil=>exact .inr ⟨rfl,λp hp=>(Tn hp).elim⟩
 |cons p r ih =>
  unfold sg
  by_cases h:p.1=x
  ·rw[Uc h]
   exact .inl ⟨hn p (Ur ..),by rw[<-h];exact Ur ..⟩
  ·rw[Uh h]
   rcases ih (λq hq=>hn q (Ut _ hq)) with⟨a,b⟩|⟨a,b⟩
   ·exact .inl ⟨a,Ut _ b⟩
   ·refine .inr ⟨a,λq hq=>?_⟩
    rcases Uu.mp hq with rfl|hq
    ·exact h
    ·exact b q hq
theorem Qiq{M:Mk'}(hu:Up M)(hn:∀p∈M,p.2≠0){x:Int}{s:Nat}(h:rdP M x s):sg M x=s:=rdP.fun hu (QgN hn x) h
theorem Qf6{M:Mk'}(hu:Up M)(hn:∀p∈M,p.2≠0){p:Int×Nat}:p∈M↔p.2≠0/\sg M p.1=p.2:=by
 constructor
 ·intro h;exact⟨hn p h,Qiq hu hn (.inl ⟨hn p h,h⟩)⟩
 ·intro ⟨h1,h2⟩
  rcases QgN hn p.1 with⟨_,b⟩|⟨a,_⟩
  ·rw[h2]at b;exact b
  ·omega
theorem QkI:∀{M N:Mk'},Up M->Up N->(∀p,p∈M↔p∈N)->M=N
 |[],[],_,_,_=>rfl
 |[],q::N,_,_,h=>absurd ((h q).mpr (Ur ..)) (by simp)
 |p::M,[],_,_,h=>absurd ((h p).mp (Ur ..)) (by simp)
 |p::M,q::N,hM,hN,h=>by
  have hM':=US.mp hM
  have hN':=US.mp hN
  have e:p=q:=by
   rcases Uu.mp ((h p).mp (Ur ..)) with e|h1
   ·exact e
   ·rcases Uu.mp ((h q).mpr (Ur ..)) with e|h2
    ·exact e.symm
    ·have:=hN'.1 p h1
     have:=hM'.1 q h2
     omega
  subst e
  rw[QkI hM'.2 hN'.2 λr=>?_]
  constructor
  ·intro hr
   rcases Uu.mp ((h r).mp (Ut _ hr)) with e|h1
   ·subst e;exact absurd (hM'.1 _ hr) (Rv _)
   ·exact h1
  ·intro hr
   rcases Uu.mp ((h r).mpr (Ut _ hr)) with e|h1
   ·subst e;exact absurd (hN'.1 _ hr) (Rv _)
   ·exact h1
noncomputable def seen(M:Mk')(pl:Int)(P:Int->Bool):Mk':=(M.filter λp=>P (p.1-pl)).map λp=>(p.1-pl,p.2)
theorem Qir{M:Mk'}(h:Up M)(pl:Int)(P:Int->Bool):Up (seen M pl P):=by
 unfold seen
 refine List.pairwise_map.mpr ((h.filter _).imp λ{a b} z=>?_)
 show a.1-pl<b.1-pl
 omega
theorem QbN{M:Mk'}{pl:Int}{P:Int->Bool}{x:Int}{s:Nat}:(x,s)∈seen M pl P↔P x=true/\(pl+x,s)∈M:=by
 unfold seen
 constructor
 ·intro h
  obtain⟨q,hq,e⟩:=Rk.mp h
  obtain⟨a,b⟩:=UL.mp hq
  injection e with e1 e2
  subst e1 e2
  refine⟨b,?_⟩
  have:pl+(q.1-pl)=q.1:=by omega
  rw[this];exact a
 ·intro ⟨a,b⟩
  refine Rk.mpr ⟨(pl+x,s),UL.mpr ⟨b,?_⟩,?_⟩
  ·show P (pl+x-pl)=true
   have:pl+x-pl=x:=by omega
   rw[this];exact a
  ·show(pl+x-pl,s)=(x,s)
   have:pl+x-pl=x:=by omega
   rw[this]
theorem Qis{M N:Mk'}(hM:Up M)(hN:Up N)(zM:∀p∈M,p.2≠0)(zN:∀p∈N,p.2≠0){a b:Int}{P:Int->Bool}:seen M a P=seen N b P↔∀x,P x=true->sg M (a+x)=sg N (b+x):=by
 constructor
 ·intro h x hx
  have key:∀s:Nat,s≠0->((a+x,s)∈M↔(b+x,s)∈N):=λs _=>by
   have h1:=QbN (M:=M) (pl:=a) (P:=P) (x:=x) (s:=s)
   have h2:=QbN (M:=N) (pl:=b) (P:=P) (x:=x) (s:=s)
   rw[h]at h1
   constructor
   ·intro z;exact(h2.mp (h1.mpr ⟨hx,z⟩)).2
   ·intro z;exact(h1.mp (h2.mpr ⟨hx,z⟩)).2
  rcases QgN zM (a+x) with⟨u,v⟩|⟨u,v⟩
  ·exact(Qiq hN zN (.inl ⟨u,(key _ u).mp v⟩)).symm
  ·rcases QgN zN (b+x) with⟨w,z⟩|⟨w,z⟩
   ·exact absurd rfl (v _ ((key _ w).mpr z))
   ·rw[u,w]
 ·intro h
  refine QkI (Qir hM a P) (Qir hN b P) λp=>?_
  obtain⟨x,s⟩:=p
  rw[QbN,QbN,Qf6 hM zM,Qf6 hN zN]
  constructor
  ·rintro ⟨p1,p2,p3⟩;exact⟨p1,p2,by show sg N (b+x)=s;rw[<-h x p1];exact p3⟩
  ·rintro ⟨p1,p2,p3⟩;exact⟨p1,p2,by show sg M (a+x)=s;rw[h x p1];exact p3⟩
theorem Good.zero{c:Cf}(h:Good c):sg (Qk c) c.pl=(Qu c.R c.pl).getD 0:=Qiq h.up h.nz h.rd
theorem QkJ{M:Mk'}{x:Int}{s:Nat}(hu:Up (Jk M x s))(hn:∀p∈Jk M x s,p.2≠0)(zM:∀p∈M,p.2≠0)(y:Int):sg (Jk M x s) y=if y=x then s else sg M y:=by
 refine Qiq hu hn ?_
 by_cases e:y=x
 ·rw[Uc e]
  subst e
  by_cases z:s=0
  ·refine .inr ⟨z,λp hp=>?_⟩
   unfold Jk at hp
   rw[Uc z,U6]at hp
   rcases Uz.mp hp with hp|hp
   ·have:=UI (UL.mp hp).2;omega
   ·have:=UI (UL.mp hp).2;omega
  ·refine .inl ⟨z,?_⟩
   unfold Jk
   rw[Uh z]
   exact UQ _ (Uv _ (Uf.mpr rfl))
 ·rw[Uh e]
  rcases QgN zM y with⟨a,b⟩|⟨a,b⟩
  ·refine .inl ⟨a,?_⟩
   unfold Jk
   rcases Int.lt_trichotomy y x with q|q|q
   ·exact UQ _ (UQ _ (UL.mpr ⟨b,Us q⟩))
   ·exact absurd q e
   ·exact Uv _ (UL.mpr ⟨b,Us q⟩)
  ·refine .inr ⟨a,λp hp=>?_⟩
   unfold Jk at hp
   rcases Uz.mp hp with hp|hp
   ·rcases Uz.mp hp with hp|hp
    ·exact b p (UL.mp hp).1
    ·split at hp
     ·cases hp
     ·rw[Uf.mp hp];exact λz=>e z.symm
   ·exact b p (UL.mp hp).1
structure Fine(n m:Nat)(c:Cf):Prop where
 ok:OkC n m c
 good:Good c
theorem QlP{rows:List (List D)}{n m:Nat}{c:Cf}(T:Tb rows n m)(h:Fine n m c):
  (Qfc rows c.st (sg (Qk c) c.pl)=some .non/\Q5 rows c=none)\/∃(a b:Int)(y:Str)(c':Cf),Qfc rows c.st (sg (Qk c) c.pl)=some (.tup [.int a,.str y,.int b])/\Q5 rows c=some c'/\c'.st=b.toNat/\c'.pl=(if y=rS then c.pl+1 else c.pl-1)/\(∀x,sg (Qk c') x=if x=c.pl then a.toNat else sg (Qk c) x)/\Fine n m c':=by
 rcases Qel T h.ok h.good with⟨h1,h2⟩|⟨a,b,y,c',h1,a0,am,b0,bn,yy,h2,e1,e2,e3,e4,e5⟩
 ·exact .inl ⟨by rw[h.good.zero];exact h1,h2⟩
 ·refine .inr ⟨a,b,y,c',by rw[h.good.zero];exact h1,h2,e1,e2,λx=>?_,e5,e4⟩
  have hu:=e4.up
  have hn:=e4.nz
  rw[e3]at hu hn ⊢
  exact QkJ hu hn h.good.nz x
theorem Jm{rows:List (List D)}:∀(k:Nat)(c:Cf),((runC rows k c).2=k/\((Q5 rows (runC rows k c).1=none/\runC rows (k+1) c=runC rows k c)\/∃d,Q5 rows (runC rows k c).1=some d/\runC rows (k+1) c=(d,k+1)))\/((runC rows k c).2<k/\runC rows (k+1) c=runC rows k c)
 |0,c=>by
  left
  refine⟨rfl,?_⟩
  cases h:Q5 rows c with
  |none=>exact .inl ⟨h,by rw[Zz h];rfl⟩
  |some d=>exact .inr ⟨d,h,by rw[ZM h];rfl⟩
 |k+1,c=>by
  cases h:Q5 rows c with
  |none=>right;rw[Zz h,Zz h];exact⟨by show 0<k+1;omega,rfl⟩
  |some c' =>
   rw[ZM h,ZM h]
   rcases Jm (rows:=rows) k c' with⟨a,b⟩|⟨a,b⟩
   ·left
    refine⟨by show(runC rows k c').2+1=k+1;rw[a],?_⟩
    rcases b with⟨b1,b2⟩|⟨d,b1,b2⟩
    ·exact .inl ⟨b1,by rw[b2]⟩
    ·exact .inr ⟨d,b1,by rw[b2]⟩
   ·right
    exact⟨by show(runC rows k c').2+1<k+1;omega,by rw[b]⟩
section
variable{rows:List (List D)}{n m:Nat}
noncomputable abbrev cfg(rows:List (List D))(i:Nat):Cf:=(runC rows i c0).1
abbrev done(rows:List (List D))(i:Nat):Prop:=(runC rows i c0).2=i
theorem Qen{k:Nat}(h:done rows (k+1)):done rows k/\Q5 rows (cfg rows k)=some (cfg rows (k+1)):=by
 rcases Jm (rows:=rows) k c0 with⟨a,⟨b,c⟩|⟨d,b,c⟩⟩|⟨a,b⟩
 ·unfold done at h;rw[c,a]at h;omega
 ·exact⟨a,by unfold cfg;rw[b,c]⟩
 ·unfold done at h;rw[b]at h;omega
theorem Qit{k j:Nat}(h:done rows k)(hj:j<=k):done rows j:=by
 induction k with
 |zero =>
  have:j=0:=by omega
  subst this;exact h
 |succ k ih =>
  by_cases e:j=k+1
  ·subst e;exact h
  ·exact ih (Qen h).1 (by omega)
theorem Qiu{k j:Nat}(h:done rows k)(hj:j<k):Q5 rows (cfg rows j)=some (cfg rows (j+1)):=(Qen (Qit h (show j+1<=k by omega))).2
theorem Qiv{k:Nat}{d:Cf}(h:done rows k)(hs:Q5 rows (cfg rows k)=some d):done rows (k+1)/\cfg rows (k+1)=d:=by
 rcases Jm (rows:=rows) k c0 with⟨a,⟨b,c⟩|⟨e,b,c⟩⟩|⟨a,b⟩
 ·unfold cfg at hs;rw[b]at hs;cases hs
 ·unfold cfg at hs;rw[b]at hs;cases hs
  unfold done cfg;rw[c];exact⟨rfl,rfl⟩
 ·unfold done at h;omega
theorem Qnw(T:Tb rows n m):Fine n m c0:=⟨ok0 T,Qod⟩
theorem Qdv(T:Tb rows n m):∀(k:Nat)(c:Cf),Fine n m c->Fine n m (runC rows k c).1
 |0,_,h=>h
 |k+1,c,h=>by
  rcases QlP T h with⟨_,z⟩|⟨a,b,y,c1,h1,h2,e1,e2,e3,e4⟩
  ·rw[Zz z];exact h
  ·rw[ZM h2];exact Qdv T k c1 e4
theorem Ys(T:Tb rows n m)(k:Nat):Fine n m (cfg rows k):=Qdv T k c0 (Qnw T)
noncomputable def lo(rows:List (List D))(f:Nat):Nat->Int
 |0=>(cfg rows f).pl
 |j+1=>if (cfg rows (f+(j+1))).pl<lo rows f j then (cfg rows (f+(j+1))).pl else lo rows f j
noncomputable def hi(rows:List (List D))(f:Nat):Nat->Int
 |0=>(cfg rows f).pl
 |j+1=>if hi rows f j<(cfg rows (f+(j+1))).pl then (cfg rows (f+(j+1))).pl else hi rows f j
theorem Qnx(f:Nat):∀j i,i<=j->lo rows f j<=(cfg rows (f+i)).pl
 |0,i,h=>by
  have:i=0:=by omega
  subst this;exact Rf _
 |j+1,i,h=>by
  have ih:=Qnx f j
  unfold lo
  by_cases e:i=j+1
  ·subst e;split <;> omega
  ·have:=ih i (by omega);split <;> omega
theorem Qny(f:Nat):∀j i,i<=j->(cfg rows (f+i)).pl<=hi rows f j
 |0,i,h=>by
  have:i=0:=by omega
  subst this;exact Rf _
 |j+1,i,h=>by
  have ih:=Qny f j
  unfold hi
  by_cases e:i=j+1
  ·subst e;split <;> omega
  ·have:=ih i (by omega);split <;> omega
def Qak(rows:List (List D))(f l:Nat):Prop:=(cfg rows f).st=(cfg rows l).st/\(cfg rows f).pl=(cfg rows l).pl/\Qk (cfg rows f)=Qk (cfg rows l)
noncomputable def QgO(low:Int):Int->Bool:=λx=>decide (-low<=x)
noncomputable def QgP(high:Int):Int->Bool:=λx=>decide (x<=high)
def Yn(rows:List (List D))(f l:Nat):Prop:=(cfg rows f).st=(cfg rows l).st/\(cfg rows f).pl≠(cfg rows l).pl /\
 if (cfg rows f).pl<(cfg rows l).pl then seen (Qk (cfg rows f)) (cfg rows f).pl (QgO ((cfg rows f).pl-lo rows f (l-f)))=seen (Qk (cfg rows l)) (cfg rows l).pl (QgO ((cfg rows f).pl-lo rows f (l-f)))
 else seen (Qk (cfg rows f)) (cfg rows f).pl (QgP (hi rows f (l-f) - (cfg rows f).pl))=seen (Qk (cfg rows l)) (cfg rows l).pl (QgP (hi rows f (l-f) - (cfg rows f).pl))
end
section
variable{rows:List (List D)}{n m:Nat}
theorem QlQ(T:Tb rows n m):∀(k:Nat)(c:Cf),OkC n m c->(runC rows k c).1.L.length+(runC rows k c).1.R.length<=c.L.length+c.R.length+k:=by
 intro k
 induction k with
 |zero=>intro c _;exact Ug _
 |succ k ih =>
  intro c hc
  obtain⟨row,d,hr,hdd,hent,hat⟩:=T.at hc.st (hc.sg T.m0)
  cases hs:Q5 rows c with
  |none=>rw[Zz hs];show c.L.length+c.R.length<=_;omega
  |some c' =>
   rw[ZM hs]
   have hg:(goL d c.pl c.L c.R).map (λx=>(⟨x.1,x.2.1,x.2.2.1,x.2.2.2⟩:Cf))=some c':=by
    unfold Q5 at hs;rw[hat]at hs;exact hs
   obtain⟨o',l'⟩:=Qfe (rows:=rows) hc hent hg
   have:=ih c' o'
   show(runC rows k c').1.L.length+(runC rows k c').1.R.length<=_
   omega
theorem Qbf(T:Tb rows n m)(k:Nat):(cfg rows k).L.length+(cfg rows k).R.length<=k:=by
 have h:=QlQ T k c0 (ok0 T)
 have h1:c0.L.length=0:=rfl
 have h2:c0.R.length=0:=rfl
 rw[h1,h2,Wo]at h
 exact h
theorem Qeo{w l r:Nat}{c c':Cf}{g:G}(T:Tb rows n m)(h:Fine n m c)(hz:c.L.length+c.R.length<900)(W:cRep rows w l r g c)(hs:Q5 rows c=some c'):∃g',Qo [.ref w] g=.ok (.bl true) g'/\cRep rows w l r g' c'/\KW w l r g g':=by
 obtain⟨row,d,hr,hdd,hent,hat⟩:=T.at h.ok.st (h.ok.sg T.m0)
 rcases Qbd W hr hdd hent (by omega) (by omega) with⟨rfl,e⟩|⟨st',pl',L',R',g1,eg,e,W1,k1⟩
 ·have:Q5 rows c=none:=by unfold Q5;rw[hat];rfl
  rw[hs]at this;cases this
 ·have hs':Q5 rows c=some ⟨st',pl',L',R'⟩:=by unfold Q5;rw[hat];show(goL d c.pl c.L c.R).map _=_;rw[eg];rfl
  rw[hs]at hs'
  cases hs'
  exact⟨g1,e,W1,k1⟩
theorem Qf7{M f l:Nat}{g:G}(T:Tb rows n m)(hd:done rows l)(hfl:f<l)(hl:l<200)(hM:g[M]?=some (Qaj rows)):
  ∃g',Qab [.ref M,.int f,.int l] g=.ok (.tup [Ql (cfg rows f),Ql (cfg rows l),.int ((cfg rows f).pl-lo rows f (l-f)),.int (hi rows f (l-f) - (cfg rows f).pl)]) g'/\Keeps [] g g':=by
 obtain⟨w,a,b,g1,e1,W1,k1,h1,h2,h3⟩:=Qej (a:=Qb (mVar 0) (Qb (mLit (.tup [(.int 0),(.int 0),(.tup [])])) mNil)) (σ:=[some (.ref M),some (.int f),some (.int l),none,none,none,none,none]) (g0:=g) (g:=g) rfl hM
 obtain⟨g2,e2,W2,k2,o2⟩:=Qnu (k:=f) (c:=c0) T (ok0 T) (show 0+0+f<800 by omega) W1
 have hf:(runC rows f c0).2=f:=Qit hd (by omega)
 rw[hf]at e2
 have hzf:=Qbf T f
 have hzl:=Qbf T l
 have es:=Qds (c:=cfg rows f) (by omega) W2
 have hr:inR (f:Int):=QaP (by omega)
 have hr2:inR (l:Int):=QaP (by omega)
 have hn:((l:Int) - (f:Int)).toNat=l-f:=by omega
 obtain⟨σ',g3,e3,⟨y7,i1⟩,W3,k3⟩:=JL (t:=gSet 7) (body:=Yr) (lo:=f) (n:=l-f) (σ:=[some (.ref M),some (.int f),some (.int l),some (.ref w),some (Ql (cfg rows f)),some (.int (cfg rows f).pl),some (.int (cfg rows f).pl),none]) (g:=g2)
  (λi σ g3=>(∃y7,σ=[some (.ref M),some (.int f),some (.int l),some (.ref w),some (Ql (cfg rows f)),some (.int (lo rows f i)),some (.int (hi rows f i)),y7])/\cRep rows w a b g3 (cfg rows (f+i))/\KW w a b g2 g3) ⟨⟨none,rfl⟩,W2,.refl⟩ (λi σ g3 hi' hQ=>by
   obtain⟨⟨y7,i1⟩,W3,k3⟩:=hQ
   subst i1
   have hzi:=Qbf T (f+i)
   obtain⟨g4,e4,W4,k4⟩:=Qeo T (Ys T (f+i)) (by omega) W3 (Qiu hd (by omega))
   refine⟨_,[some (.ref M),some (.int f),some (.int l),some (.ref w),some (Ql (cfg rows f)),some (.int (lo rows f (i+1))),some (.int (hi rows f (i+1))),some (.int (f+i))],g4,rfl,?_,⟨_,rfl⟩,W4,k3.trans k4⟩
   show Yr [some (.ref M),some (.int f),some (.int l),some (.ref w),some (Ql (cfg rows f)),some (.int (lo rows f i)),some (.int (hi rows f i)),some (.int (f+i))] g3=_
   unfold Yr
   refine Qg _ g4 (iff' g4 (Qeh (QB (by rw[Z4 rfl W3.w' (Qae ..) rfl];exact e4))) rfl) (Qg [some (.ref M),some (.int f),some (.int l),some (.ref w),some (Ql (cfg rows f)),some (.int (lo rows f (i+1))),some (.int (hi rows f i)),some (.int (f+i))] g4 (Qw (Qn (x:=.int (lo rows f i)) (y:=.int (cfg rows (f+(i+1))).pl) (g1:=g4) (g2:=g4) rfl (W4.place rfl) rfl)) (Qw (Qn (x:=.int (hi rows f i)) (y:=.int (cfg rows (f+(i+1))).pl) (g1:=g4) (g2:=g4) rfl (W4.place rfl) rfl))))
 have efl:f+(l-f)=l:=by omega
 rw[efl]at W3
 have es3:=Qds (c:=cfg rows l) (by omega) W3
 refine⟨g3,QJ rfl ?_,KW.old (k2.trans k3) k1 h1 h2 h3⟩
 show Qbc [some (.ref M),some (.int f),some (.int l),none,none,none,none,none] g=_
 unfold Qbc
 refine Qg [some (.ref M),some (.int f),some (.int l),some (.ref w),none,none,none,none] g1 (Qw e1) ?_
 have t0:Qf (mOp2 pLt (Zr 12 (Str.ofString "run") Qaa (mVar 3) (Qb (mVar 1) mNil)) (mVar 1)) [some (.ref M),some (.int f),some (.int l),some (.ref w),none,none,none,none] g1=.ok (decide ((f:Int)<(f:Int))) g2:=QB (Qn (x:=.int f) (y:=.int f) (g1:=g2) (g2:=g2) (by rw[Z4 rfl W1.w' (Qnt ..) (xs:=[.int f]) (g2:=g1) rfl];exact e2) rfl rfl)
 rw[Uq (Rv _)]at t0
 refine Qg [some (.ref M),some (.int f),some (.int l),some (.ref w),none,none,none,none] g2 (iff' g2 t0 rfl) ?_
 refine Qg [some (.ref M),some (.int f),some (.int l),some (.ref w),some (Ql (cfg rows f)),none,none,none] g2 (Qw (by rw[Z4 rfl W2.w' (Qdr ..) rfl];exact es)) ?_
 refine Qg [some (.ref M),some (.int f),some (.int l),some (.ref w),some (Ql (cfg rows f)),some (.int (cfg rows f).pl),none,none] g2 (Qw rfl) ?_
 refine Qg [some (.ref M),some (.int f),some (.int l),some (.ref w),some (Ql (cfg rows f)),some (.int (cfg rows f).pl),some (.int (cfg rows f).pl),none] g2 (Qw rfl) ?_
 have hit:Q7 (mVar 1) (mVar 2) [some (.ref M),some (.int f),some (.int l),some (.ref w),some (Ql (cfg rows f)),some (.int (cfg rows f).pl),some (.int (cfg rows f).pl),none] g2=.ok (QI f (l-f)) g2:=by
  unfold Q7
  rw[show mVar 1 [some (D.ref M),some (D.int f),some (D.int l),some (D.ref w),some (Ql (cfg rows f)),some (D.int (cfg rows f).pl),some (D.int (cfg rows f).pl),none] g2=Res.ok (D.int f) g2 from rfl,Res.bind_ok,show mVar 2 [some (D.ref M),some (D.int f),some (D.int l),some (D.ref w),some (Ql (cfg rows f)),some (D.int (cfg rows f).pl),some (D.int (cfg rows f).pl),none] g2=Res.ok (D.int l) g2 from rfl,Res.bind_ok]
  dsimp only
  rw[Uc ⟨hr,hr2⟩,hn]
 rw[i1]at e3
 refine Qg _ g3 ((YJ hit).trans e3) (ZE ?_)
 have:(Qb (mVar 4) (Qb (Zr 12 (Str.ofString "shot") ZQ (mVar 3) mNil) (Qb (mOp2 pSub (mOp2 pIx (mVar 4) (mLit (.int 1))) (mVar 5)) (Qb (mOp2 pSub (mVar 6) (mOp2 pIx (mVar 4) (mLit (.int 1)))) mNil)))) [some (.ref M),some (.int f),some (.int l),some (.ref w),some (Ql (cfg rows f)),some (.int (lo rows f (l-f))),some (.int (hi rows f (l-f))),y7] g3=.ok [Ql (cfg rows f),Ql (cfg rows l),.int ((cfg rows f).pl-lo rows f (l-f)),.int (hi rows f (l-f) - (cfg rows f).pl)] g3 :=
  Qz (g1:=g3) rfl (Qz (g1:=g3) (by rw[Z4 rfl W3.w' (Qdr ..) rfl];exact es3) (Qz (g1:=g3) rfl (Qz (g1:=g3) rfl rfl)))
 unfold mOpA
 rw[this,Res.bind_ok]
 rfl
theorem Qf8{k:Str}{f l:Nat}(g:G)(hfl:f<l):Ji [.tup [.str k,.int f,.int l],.str k] g=.ok (.bl true) g:=by
 refine QJ rfl ?_
 show Jh [some (.tup [.str k,.int f,.int l]),some (.str k)] g=_
 unfold Jh
 have t1:Qf (mOp2 pNe (mOp2 pIx (mVar 0) (mLit (.int 0))) (mVar 1)) [some (.tup [.str k,.int f,.int l]),some (.str k)] g=.ok false g:=by
  have:Qf (mOp2 pNe (mOp2 pIx (mVar 0) (mLit (.int 0))) (mVar 1)) [some (.tup [.str k,.int f,.int l]),some (.str k)] g=.ok (!(k == k)) g:=rfl
  rw[this];simp
 refine Qg _ g (iff' g (QlK (g1:=g) rfl (QlK (g1:=g) rfl t1)) rfl) (ZE ?_)
 have a1:Qr Yx (Qb (mOp2 pIx (mVar 0) (mLit (.int 2))) mNil) [some (.tup [.str k,.int f,.int l]),some (.str k)] g=.ok (.bl true) g:=rfl
 have a2:Qr Zi (Qb (mOp2 pIx (mVar 0) (mLit (.int 1))) (Qb (mOp2 pIx (mVar 0) (mLit (.int 2))) mNil)) [some (.tup [.str k,.int f,.int l]),some (.str k)] g=.ok (.bl true) g:=by
  rw[Qv (ds:=[.int f,.int l]) (g':=g) rfl,Qaw (.int f) l g .int rfl]
  have:Qan (.int f) l=true:=Us ⟨by omega,by omega⟩
  rw[this]
 unfold mAnd
 rw[a1,Res.bind_ok]
 dsimp only
 rw[Uc rfl,a2]
theorem QjX(f:Nat)(p q:Int×Nat):eqI (f+1) (.tup [.int p.1,.int (p.2:Nat)]) (.tup [.int q.1,.int (q.2:Nat)])=some (decide (p=q)):=by
 have h0:∀i j:Int,eqI f (.int i) (.int j)=some (i == j):=λi j=>by cases f <;> rfl
 show eqGs (eqI f) [.int p.1,.int (p.2:Nat)] [.int q.1,.int (q.2:Nat)]=_
 unfold eqGs
 rw[h0]
 unfold eqGs
 rw[h0]
 show some ((p.1 == q.1) && (((p.2:Int) == (q.2:Int)) && true))=_
 congr 1
 obtain⟨a,b⟩:=p
 obtain⟨c,d⟩:=q
 rw[Bool.and_true,Ts,UD,Td,Td,UO,Prod.mk.injEq]
 constructor
 ·rintro ⟨h1,h2⟩;exact⟨h1,by exact_mod_cast h2⟩
 ·rintro ⟨h1,h2⟩;exact⟨h1,by exact_mod_cast h2⟩
theorem Qdw(f:Nat):∀M N:Mk',eqGs (eqI (f+1)) (mkD M) (mkD N)=some (decide (M=N))
 |[],[]=>rfl
 |[],_::_=>rfl
 |_::_,[]=>rfl
 |p::M,q::N=>by
  show(match eqI (f+1) (.tup [.int p.1,.int (p.2:Nat)]) (.tup [.int q.1,.int (q.2:Nat)]),eqGs (eqI (f+1)) (mkD M) (mkD N) with
   |some a,some b=>some (a && b)
   |_,_=>none)=_
  rw[QjX,Qdw f M N]
  show some (decide (p=q) && decide (M=N))=_
  congr 1
  rw[Ts,UD,UO,UO,UO,List.cons.injEq]
theorem Qiw(c c':Cf)(g:G):pEq (Ql c) (Ql c') g=.ok (.bl (decide ((c.st:Int)=c'.st/\c.pl=c'.pl/\Qk c=Qk c'))) g:=by
 have:eqT g (Ql c) (Ql c')=some (decide ((c.st:Int)=c'.st/\c.pl=c'.pl/\Qk c=Qk c')):=by
  show(match some ((c.st:Int) == c'.st),(match some (c.pl == c'.pl),(match eqGs (eqI 1) (mkD (Qk c)) (mkD (Qk c')),some true with
    |some a,some b=>some (a && b)
    |_,_=>none) with
   |some a,some b=>some (a && b)
   |_,_=>none) with
   |some a,some b=>some (a && b)
   |_,_=>none)=_
  rw[Qdw]
  show some (((c.st:Int) == c'.st) && ((c.pl == c'.pl) && (decide (Qk c=Qk c') && true)))=_
  congr 1
  rw[Bool.and_true,Ts,UD,UD,Td,Td,UO,UO]
 unfold pEq
 rw[this]
theorem QjY{M f l:Nat}{g:G}(T:Tb rows n m)(hd:done rows l)(hfl:f<l)(hl:l<200)(hM:g[M]?=some (Qaj rows)):
  ∃b g',Zv [.ref M,.tup [.str "same",.int f,.int l]] g=.ok (.bl b) g'/\Keeps [] g g'/\(b=true↔Qak rows f l):=by
 obtain⟨g',e,k⟩:=Qf7 T hd hfl hl hM
 refine⟨decide (((cfg rows f).st:Int)=(cfg rows l).st/\(cfg rows f).pl=(cfg rows l).pl/\Qk (cfg rows f)=Qk (cfg rows l)),g',QJ rfl ?_,k,?_⟩
 ·show Yi [some (.ref M),some (.tup [.str "same",.int f,.int l]),none] g=_
  unfold Yi
  refine Qg _ g (iff' g (Qeh (QB (by rw[Qv (ds:=[.tup [.str "same",.int f,.int l],.str "same"]) (g':=g) rfl];exact Qf8 g hfl))) rfl) ?_
  refine Qg [some (.ref M),some (.tup [.str "same",.int f,.int l]),some (.tup [Ql (cfg rows f),Ql (cfg rows l),.int ((cfg rows f).pl-lo rows f (l-f)),.int (hi rows f (l-f) - (cfg rows f).pl)])] g' (Qw (by rw[Qv (ds:=[.ref M,.int f,.int l]) (g':=g) rfl];exact e)) (ZE ?_)
  have a1:mOp2 YB (mVar 2) (mLit .non) [some (.ref M),some (.tup [.str "same",.int f,.int l]),some (.tup [Ql (cfg rows f),Ql (cfg rows l),.int ((cfg rows f).pl-lo rows f (l-f)),.int (hi rows f (l-f) - (cfg rows f).pl)])] g'=.ok (.bl true) g':=rfl
  have a2:mOp2 pEq (mOp2 pIx (mVar 2) (mLit (.int 0))) (mOp2 pIx (mVar 2) (mLit (.int 1))) [some (.ref M),some (.tup [.str "same",.int f,.int l]),some (.tup [Ql (cfg rows f),Ql (cfg rows l),.int ((cfg rows f).pl-lo rows f (l-f)),.int (hi rows f (l-f) - (cfg rows f).pl)])] g'=pEq (Ql (cfg rows f)) (Ql (cfg rows l)) g':=Qn (g1:=g') (g2:=g') rfl rfl rfl
  unfold mAnd
  rw[a1,Res.bind_ok]
  dsimp only
  rw[Uc rfl,a2]
  exact Qiw _ _ _
 ·rw[UO]
  unfold Qak
  constructor
  ·rintro ⟨a,b,c⟩;exact⟨by omega,b,c⟩
  ·rintro ⟨a,b,c⟩;exact⟨by omega,b,c⟩
theorem Qep{c:Cf}{P:Int->Bool}{x:D}{C:MT}{g:G}(hC:∀(p:Int×Nat),C [some (.int p.1),some (.int (p.2:Nat)),some (Ql c),some x] g=.ok (P (p.1-c.pl)) g)(hz:(Qk c).length<=1000):
  ZO (QQ (mOp2 pIx (mVar 0) (mLit (.int 2)))) 2 [0,1] (Yo [(gSet 0),(gSet 1)]) C (mOpA pTup (Qb (mOp2 pSub (mVar 0) (mOp2 pIx (mVar 2) (mLit (.int 1)))) (Qb (mVar 1) mNil))) [some (Ql c),some x] g=.ok (.ref g.length) (g++[.lst (mkD (seen (Qk c) c.pl P))]):=by
 have hit:QQ (mOp2 pIx (mVar 0) (mLit (.int 2))) [some (Ql c),some x] g=.ok ⟨λ_ i=>some (mkD (Qk c))[i]?,(mkD (Qk c)).length⟩ g:=rfl
 obtain⟨xs,σ',g',h1,h2,h3,h4⟩:=Zy (src:=⟨λ_ i=>some (mkD (Qk c))[i]?,(mkD (Qk c)).length⟩) (t:=Yo [gSet 0,gSet 1]) (c:=C) (e:=mOpA pTup (Qb (mOp2 pSub (mVar 0) (mOp2 pIx (mVar 2) (mLit (.int 1)))) (Qb (mVar 1) mNil))) (n:=(Qk c).length)
  (λi σ' g1 acc=>acc=mkD (seen ((Qk c).take i) c.pl P)/\g1=g/\∃u v,σ'=[u,v,some (Ql c),some x]) (λi σ' g1 acc hi hQ=>by
   obtain⟨h1,h2,u,v,h3⟩:=hQ
   subst h2 h3
   refine⟨.tup [.int (Qk c)[i].1,.int ((Qk c)[i].2:Nat)],[some (.int (Qk c)[i].1),some (.int ((Qk c)[i].2:Nat)),some (Ql c),some x],g1,by show some (mkD (Qk c))[i]?=_;simp[mkD,hi],rfl,?_⟩
   have hs:(Qk c).take (i+1)=(Qk c).take i++[(Qk c)[i]]:=by rw[U1 hi]
   cases hP:P ((Qk c)[i].1-c.pl) with
   |true =>
    refine .inl ⟨.tup [.int ((Qk c)[i].1-c.pl),.int ((Qk c)[i].2:Nat)],g1,by rw[hC,hP],rfl,?_,rfl,_,_,rfl⟩
    rw[h1,hs]
    unfold seen mkD
    rw[T9,UV,UV]
    congr 1
    rw[U8,Uc hP]
    rfl
   |false =>
    refine .inr ⟨by rw[hC,hP],?_,rfl,_,_,rfl⟩
    rw[h1,hs]
    unfold seen mkD
    rw[T9,UV,UV]
    have:List.filter (λp=>P (p.1-c.pl)) [(Qk c)[i]]=[]:=by rw[U8,Uh (by rw[hP];simp)];rfl
    rw[this]
    simp) (λσ g1 acc hQ=>by show some (mkD (Qk c))[(Qk c).length]?=_;simp[mkD]) ((Qk c).length+1) 0 [none,none,some (Ql c),some x] g [] (by omega) (by omega) ⟨rfl,rfl,none,none,rfl⟩
 rw[TW]at h2
 subst h2 h3
 exact JP hit (by show(mkD (Qk c)).length<=SZ;rw[YK];exact U3 (JN hz)) rfl (by rw[<-YK (Qk c)]at h1;exact h1)
theorem Qix{c:Cf}{low:Int}(g:G)(hz:(Qk c).length<=1000):ZU [Ql c,.int low] g=.ok (.ref g.length) (g++[.lst (mkD (seen (Qk c) c.pl (QgO low)))]) :=
 QJ rfl (ZE (Qep (P:=QgO low) (λ_=>rfl) hz))
theorem Qiy{c:Cf}{high:Int}(g:G)(hz:(Qk c).length<=1000):ZC [Ql c,.int high] g=.ok (.ref g.length) (g++[.lst (mkD (seen (Qk c) c.pl (QgP high)))]) :=
 QJ rfl (ZE (Qep (P:=QgP high) (λ_=>rfl) hz))
theorem QjZ{a b:Nat}{M N:Mk'}{g:G}(ha:g[a]?=some (.lst (mkD M)))(hb:g[b]?=some (.lst (mkD N))):pEq (.ref a) (.ref b) g=.ok (.bl (decide (M=N))) g:=by
 unfold pEq eqT
 dsimp only
 rw[ha,hb]
 dsimp only
 rw[YK,YK,Qdw]
 by_cases h:M.length=N.length
 ·rw[Uc h]
 ·rw[Uh h]
  dsimp only
  rw[Uq (λz=>h (by rw[z]))]
theorem Jn(T:Tb rows n m)(k:Nat):(Qk (cfg rows k)).length<=k:=by
 have:=Qbf T k
 unfold Qk
 rw[UB,RE]
 exact this
theorem Qeq{A B:ME}{x y:Mk'}{σ:S3}{g:G}(hA:∀g,A σ g=.ok (.ref g.length) (g++[.lst (mkD x)]))(hB:∀g,B σ g=.ok (.ref g.length) (g++[.lst (mkD y)])):∃g',mOp2 pEq A B σ g=.ok (.bl (decide (x=y))) g'/\Keeps [] g g':=by
 refine⟨g++[.lst (mkD x)]++[.lst (mkD y)],?_,(Keeps.push (S:=[]) _).trans (.push _)⟩
 refine Qn (hA g) (hB _) (QjZ ?_ (QD _))
 exact(Keeps.push (S:=[]) (.lst (mkD y))).at' _ _ (by simp) (QD _)
theorem QaR{f l:Nat}{low high:Int}{g1:G}(T:Tb rows n m)(hfl:f<l)(hl:l<200)(e1:low=(cfg rows f).pl-lo rows f (l-f))(e2:high=hi rows f (l-f) - (cfg rows f).pl):
  ∃b g2,ZV [Ql (cfg rows f),Ql (cfg rows l),.int low,.int high] g1=.ok (.bl b) g2/\Keeps [] g1 g2/\(b=true↔Yn rows f l):=by
 have hzf:=Jn T f
 have hzl:=Jn T l
 unfold Yn
 rw[<-e1,<-e2]
 clear e1 e2
 have t1:Qf (mOp2 pNe (mOp2 pIx (mVar 0) (mLit (.int 0))) (mOp2 pIx (mVar 1) (mLit (.int 0)))) [some (Ql (cfg rows f)),some (Ql (cfg rows l)),some (.int low),some (.int high)] g1=.ok (!(((cfg rows f).st:Int) == (cfg rows l).st)) g1:=rfl
 have t2:Qf (mOp2 pEq (mOp2 pIx (mVar 0) (mLit (.int 1))) (mOp2 pIx (mVar 1) (mLit (.int 1)))) [some (Ql (cfg rows f)),some (Ql (cfg rows l)),some (.int low),some (.int high)] g1=.ok ((cfg rows f).pl == (cfg rows l).pl) g1:=rfl
 have t3:Qf (mOp2 pLt (mOp2 pIx (mVar 0) (mLit (.int 1))) (mOp2 pIx (mVar 1) (mLit (.int 1)))) [some (Ql (cfg rows f)),some (Ql (cfg rows l)),some (.int low),some (.int high)] g1=.ok (decide ((cfg rows f).pl<(cfg rows l).pl)) g1:=rfl
 by_cases hs:(cfg rows f).st=(cfg rows l).st
 ·by_cases hp:(cfg rows f).pl=(cfg rows l).pl
  ·refine⟨false,g1,QJ rfl ?_,.refl,by simp[hp]⟩
   show QY [some (Ql (cfg rows f)),some (Ql (cfg rows l)),some (.int low),some (.int high)] g1=_
   unfold QY
   refine ZL (ift g1 ?_ rfl)
   unfold mOrT
   rw[t1,Res.bind_ok,hs,t2,hp]
   simp
  ·have tf:mOrT (Qf (mOp2 pNe (mOp2 pIx (mVar 0) (mLit (.int 0))) (mOp2 pIx (mVar 1) (mLit (.int 0))))) (Qf (mOp2 pEq (mOp2 pIx (mVar 0) (mLit (.int 1))) (mOp2 pIx (mVar 1) (mLit (.int 1))))) [some (Ql (cfg rows f)),some (Ql (cfg rows l)),some (.int low),some (.int high)] g1=.ok false g1:=QlK (g1:=g1) (by rw[t1,hs];simp) (by rw[t2];simp[hp])
   by_cases hlt:(cfg rows f).pl<(cfg rows l).pl
   ·obtain⟨g2,e2,k2⟩:=Qeq (A:=Qr ZU (Qb (mVar 0) (Qb (mVar 2) mNil))) (B:=Qr ZU (Qb (mVar 1) (Qb (mVar 2) mNil))) (σ:=[some (Ql (cfg rows f)),some (Ql (cfg rows l)),some (.int low),some (.int high)]) (g:=g1) (λg=>by rw[Qv (ds:=[Ql (cfg rows f),.int low]) (g':=g) rfl];exact Qix g (by omega)) (λg=>by rw[Qv (ds:=[Ql (cfg rows l),.int low]) (g':=g) rfl];exact Qix g (by omega))
    refine⟨decide (seen (Qk (cfg rows f)) (cfg rows f).pl (QgO low)=seen (Qk (cfg rows l)) (cfg rows l).pl (QgO low)),g2,QJ rfl ?_,k2,?_⟩
    ·show QY [some (Ql (cfg rows f)),some (Ql (cfg rows l)),some (.int low),some (.int high)] g1=_
     unfold QY
     exact Qg _ g1 (iff' g1 tf rfl) (ZL (ift g1 (by rw[t3,Us hlt]) (ZE e2)))
    ·rw[UO,Uc hlt];exact⟨λz=>⟨hs,hp,z⟩,λz=>z.2.2⟩
   ·obtain⟨g2,e2,k2⟩:=Qeq (A:=Qr ZC (Qb (mVar 0) (Qb (mVar 3) mNil))) (B:=Qr ZC (Qb (mVar 1) (Qb (mVar 3) mNil))) (σ:=[some (Ql (cfg rows f)),some (Ql (cfg rows l)),some (.int low),some (.int high)]) (g:=g1) (λg=>by rw[Qv (ds:=[Ql (cfg rows f),.int high]) (g':=g) rfl];exact Qiy g (by omega)) (λg=>by rw[Qv (ds:=[Ql (cfg rows l),.int high]) (g':=g) rfl];exact Qiy g (by omega))
    refine⟨decide (seen (Qk (cfg rows f)) (cfg rows f).pl (QgP high)=seen (Qk (cfg rows l)) (cfg rows l).pl (QgP high)),g2,QJ rfl ?_,k2,?_⟩
    ·show QY [some (Ql (cfg rows f)),some (Ql (cfg rows l)),some (.int low),some (.int high)] g1=_
     unfold QY
     exact Qg _ g1 (iff' g1 tf rfl) (Qg _ g1 (iff' g1 (by rw[t3,Uq hlt]) rfl) (ZE e2))
    ·rw[UO,Uh hlt];exact⟨λz=>⟨hs,hp,z⟩,λz=>z.2.2⟩
 ·refine⟨false,g1,QJ rfl ?_,.refl,by simp[hs]⟩
  show QY [some (Ql (cfg rows f)),some (Ql (cfg rows l)),some (.int low),some (.int high)] g1=_
  unfold QY
  refine ZL (ift g1 ?_ rfl)
  unfold mOrT
  have:(((cfg rows f).st:Int) == (cfg rows l).st)=false:=T7 (by omega)
  rw[t1,Res.bind_ok,this]
  rfl
theorem Qfg{M f l:Nat}{g:G}(T:Tb rows n m)(hd:done rows l)(hfl:f<l)(hl:l<200)(hM:g[M]?=some (Qaj rows)):
  ∃b g',Zw [.ref M,.tup [.str "shifted",.int f,.int l]] g=.ok (.bl b) g'/\Keeps [] g g'/\(b=true↔Yn rows f l):=by
 obtain⟨g1,e,k1⟩:=Qf7 T hd hfl hl hM
 obtain⟨b,g2,e2,k2,hb⟩:=QaR (g1:=g1) T hfl hl rfl rfl
 refine⟨b,g2,QJ rfl ?_,k1.trans k2,hb⟩
 show YH [some (.ref M),some (.tup [.str "shifted",.int f,.int l]),none] g=_
 unfold YH
 refine Qg _ g (iff' g (Qeh (QB (by rw[Qv (ds:=[.tup [.str "shifted",.int f,.int l],.str "shifted"]) (g':=g) rfl];exact Qf8 g hfl))) rfl) ?_
 refine Qg [some (.ref M),some (.tup [.str "shifted",.int f,.int l]),some (.tup [Ql (cfg rows f),Ql (cfg rows l),.int ((cfg rows f).pl-lo rows f (l-f)),.int (hi rows f (l-f) - (cfg rows f).pl)])] g1 (Qw (by rw[Qv (ds:=[.ref M,.int f,.int l]) (g':=g) rfl];exact e)) (ZE ?_)
 have a1:mOp2 YB (mVar 2) (mLit .non) [some (.ref M),some (.tup [.str "shifted",.int f,.int l]),some (.tup [Ql (cfg rows f),Ql (cfg rows l),.int ((cfg rows f).pl-lo rows f (l-f)),.int (hi rows f (l-f) - (cfg rows f).pl)])] g1=.ok (.bl true) g1:=rfl
 unfold mAnd
 rw[a1,Res.bind_ok]
 dsimp only
 rw[Uc rfl,Qv (ds:=[Ql (cfg rows f),Ql (cfg rows l),.int ((cfg rows f).pl-lo rows f (l-f)),.int (hi rows f (l-f) - (cfg rows f).pl)]) (g':=g1) rfl]
 exact e2
end
theorem Qf9(k:DK)(v:D):∀ks:List (DK×D),Yg (ks.map λp=>if p.1=k then (p.1,v) else p)=Yg ks
 |[]=>rfl
 |p::r=>by
  have ih:=Qf9 k v r
  obtain⟨q,w⟩:=p
  rw[UH]
  by_cases h:q=k
  ·rw[Uc h]
   cases q with
   |inl i=>show(Yg _).map _=(Yg r).map _;rw[ih]
   |inr s=>rfl
  ·rw[Uh h]
   cases q with
   |inl i=>show(Yg _).map _=(Yg r).map _;rw[ih]
   |inr s=>rfl
theorem Qga(x:Int)(v:D):∀{ks:List (DK×D)}{is:List Int},Yg ks=some is->Yg (ks++[(.inl x,v)])=some (is++[x])
 |[],_,h=>by cases h;rfl
 | (.inl i,_)::r,is,h=>by
  have h:(Yg r).map (i :: ·)=some is:=h
  obtain⟨js,h1,h2⟩:=Tx.mp h
  show(Yg (r++_)).map (i :: ·)=_
  rw[Qga x v h1,<-h2];rfl
theorem Qer(x:Int):∀{ks:List (DK×D)}{is:List Int},Yg ks=some is->Yg (Qbz ks (.inl x))=some (is.filter λi=>decide (i≠x))
 |[],_,h=>by cases h;rfl
 | (.inl i,_)::r,is,h=>by
  have h:(Yg r).map (i :: ·)=some is:=h
  obtain⟨js,h1,h2⟩:=Tx.mp h
  have ih:=Qer x h1
  subst h2
  unfold Qbz at ih ⊢
  rw[U8,U8]
  by_cases e:i=x
  ·subst e
   rw[Uh (by simp),Uh (by simp)];exact ih
  ·rw[Uc (by simp[e]),Uc (by simp[e])]
   show(Yg _).map (i :: ·)=_
   rw[ih];rfl
structure DOk(ks:List (DK×D))(M:Mk'):Prop where
 get:∀x,dGet ks (.inl x)=if sg M x=0 then none else some (.int (sg M x:Nat))
 keys:∃is,Yg ks=some is/\is.Nodup/\∀x,x∈is↔sg M x≠0
theorem dok0:DOk [] []:=⟨λ_=>rfl,[],rfl,.nil,λx=>by simp[sg]⟩
theorem DOk.cells{ks:List (DK×D)}{c:Cf}(h:DOk ks (Qk c))(hg:Good c):Qip ks (Qk c):=λx s hr=>by
 rw[h.get,Qiq hg.up hg.nz hr]
 by_cases z:s=0
 ·subst z;rfl
 ·rw[Uh z];rfl
theorem DOk.put{ks:List (DK×D)}{c c':Cf}{a:Int}(h:DOk ks (Qk c))(hg:Good c)(hg':Good c')(ha:0<=a)(e:Qk c'=Jk (Qk c) c.pl a.toNat):DOk (putC ks c.pl a) (Qk c'):=by
 have hsg:∀x,sg (Qk c') x=if x=c.pl then a.toNat else sg (Qk c) x:=λx=>by
  have hu:=hg'.up
  have hn:=hg'.nz
  rw[e]at hu hn ⊢
  exact QkJ hu hn hg.nz x
 obtain⟨is,k1,k2,k3⟩:=h.keys
 have hinj:∀y:Int,((Sum.inl y:DK)=.inl c.pl)↔y=c.pl:=λy=>⟨λz=>by injection z,λz=>by rw[z]⟩
 have kput:∃js,Yg (dPut ks (.inl c.pl) (.int a))=some js/\js.Nodup/\∀x,x∈js↔(x=c.pl\/x∈is):=by
  unfold dPut
  rw[Qdt]
  by_cases z:sg (Qk c) c.pl=0
  ·have hn:dGet ks (.inl c.pl)=none:=by rw[h.get,Uc z]
   rw[hn,Uh (by simp)]
   refine⟨is++[c.pl],Qga _ _ k1,?_,λx=>by simp;exact Or.comm⟩
   rw[List.nodup_append]
   refine⟨k2,by simp,λx hx y hy=>?_⟩
   rw[Uf.mp hy]
   intro q
   subst q
   exact(k3 _).mp hx z
  ·have hn:dGet ks (.inl c.pl)=some (.int (sg (Qk c) c.pl:Nat)):=by rw[h.get,Uh z]
   rw[hn,Uc (show(some (D.int (sg (Qk c) c.pl:Nat))).isSome=true from rfl),Qf9]
   refine⟨is,k1,k2,λx=>⟨.inr,λq=>?_⟩⟩
   rcases q with q|q
   ·subst q;exact(k3 _).mpr z
   ·exact q
 obtain⟨js,j1,j2,j3⟩:=kput
 unfold putC
 by_cases z:a=0
 ·rw[Uc z]
  refine⟨λx=>?_,js.filter (λi=>decide (i≠c.pl)),Qer _ j1,j2.filter _,λx=>?_⟩
  ·rw[Qem,Qdu,hsg]
   by_cases q:x=c.pl
   ·rw[Uc ((hinj x).mpr q),Uc q,Uc (by omega)]
   ·rw[Uh (λw=>q ((hinj x).mp w)),Uh (λw=>q ((hinj x).mp w)),Uh q];exact h.get x
  ·rw[UL,j3,hsg]
   by_cases q:x=c.pl
   ·rw[Uc q];subst z;simp[q]
   ·rw[Uh q,<-k3];simp[q]
 ·rw[Uh z]
  refine⟨λx=>?_,js,j1,j2,λx=>?_⟩
  ·rw[Qdu,hsg]
   by_cases q:x=c.pl
   ·rw[Uc ((hinj x).mpr q),Uc q,Uh (by omega),T4 ha]
   ·rw[Uh (λw=>q ((hinj x).mp w)),Uh q];exact h.get x
  ·rw[j3,hsg]
   by_cases q:x=c.pl
   ·rw[Uc q];simp[q];omega
   ·rw[Uh q,<-k3];simp[q]
theorem DOk.sorted{ks:List (DK×D)}{c:Cf}{is:List Int}(h:DOk ks (Qk c))(hg:Good c)(hk:Yg ks=some is):Qai is=(Qk c).map (·.1):=by
 obtain⟨js,k1,k2,k3⟩:=h.keys
 rw[hk]at k1
 cases k1
 have hs:((Qk c).map (·.1)).Pairwise (· < ·):=List.pairwise_map.mpr hg.up
 refine Qat _ _ ((Yw is).trans ?_) (JF is) (hs.imp λh=>Int.le_of_lt h)
 refine(List.perm_ext_iff_of_nodup k2 (hs.imp λh=>Int.ne_of_lt h)).mpr λx=>?_
 rw[k3]
 constructor
 ·intro z
  rcases QgN hg.nz x with⟨_,b⟩|⟨b,_⟩
  ·exact Rk.mpr ⟨_,b,rfl⟩
  ·exact absurd b z
 ·intro z
  obtain⟨p,hp,rfl⟩:=Rk.mp z
  have:=(Qf6 hg.up hg.nz).mp hp
  rw[this.2];exact this.1
theorem QaS:∀is:List Int,Qbv (is.map D.int)=some is
 |[]=>rfl
 |i::r=>by show(Qbv (r.map D.int)).map _=_;rw[QaS r];rfl
theorem QaT{f:List D->G->Res D}{a:MA}{σ:S3}{g g1:G}{xs:List D}{R:Res D}(h:a σ g=.ok xs g1)(h2:f xs g1=R):mOpA f a σ g=R:=by unfold mOpA;rw[h,Res.bind_ok,h2]
theorem Qgb{c:Cf}{d:Nat}{ks:List (DK×D)}{g:G}(hd:g[d]?=some (.dct ks))(h:DOk ks (Qk c))(hg:Good c)(hz:(Qk c).length<60):∃g',J8 [Qm c d] g=.ok (Ql c) g'/\Keeps [] g g':=by
 obtain⟨is,k1,k2,k3⟩:=h.keys
 have hs:=h.sorted hg k1
 have hl:is.length=(Qk c).length:=by
  have:=(Yw is).length_eq
  rw[hs,Um]at this
  exact this.symm
 have kk1:Keeps [] g (g++[.lst (is.map .int)]):=.push _
 have kk2:Keeps [] (g++[.lst (is.map .int)]) (g++[.lst (is.map .int)]++[.lst ((Qai is).map .int)]):=.push _
 have hg2:(g++[GO.lst (is.map .int)]++[GO.lst ((Qai is).map .int)])[(g++[GO.lst (is.map .int)]).length]?=some (.lst ((Qai is).map .int)):=QD _
 have hd2:=(kk1.trans kk2).at' _ _ (by simp) hd
 have e1:mOp1 Qas (mOp1 Qa8 (mVar 3)) [some (Qm c d),some (.int c.st),some (.int c.pl),some (.ref d)] g=.ok (.ref (g++[GO.lst (is.map .int)]).length) (g++[.lst (is.map .int)]++[.lst ((Qai is).map .int)]):=by
  refine ZW (x:=.ref g.length) (g1:=g++[.lst (is.map .int)]) (ZW (x:=.ref d) (g1:=g) rfl ?_) ?_
  ·unfold Qa8
   dsimp only
   rw[hd]
   dsimp only
   rw[k1]
   dsimp only
   rw[Uc (by omega)]
  ·unfold Qas
   rw[Qcd (QD _)]
   dsimp only
   rw[QaS]
   dsimp only
   rw[Uc (by omega)]
 generalize g++[GO.lst (is.map .int)]++[GO.lst ((Qai is).map .int)]=g2 at kk2 hg2 hd2 e1
 generalize (g++[GO.lst (is.map .int)]).length=q at hg2 e1
 rw[hs]at hg2
 have hit:QQ (mOp1 Qas (mOp1 Qa8 (mVar 3))) [some (Qm c d),some (.int c.st),some (.int c.pl),some (.ref d)] g=.ok ⟨λg i=>(match g[q]? with|some (.lst es)=>some es[i]? | _=>none),(Qk c).length⟩ g2:=by
  unfold QQ
  rw[e1,Res.bind_ok]
  unfold QaC
  dsimp only
  rw[hg2]
  dsimp only
  rw[Um,Um]
  try rfl
 obtain⟨xs,σ',g3,h1,h2,h3,h4⟩:=Zy (src:=⟨λg i=>(match g[q]? with|some (.lst es)=>some es[i]? | _=>none),(Qk c).length⟩) (t:=gSet 0) (c:=Yf) (e:=mOpA pTup (Qb (mVar 0) (Qb (mOp2 pDIx (mVar 1) (mVar 0)) mNil))) (n:=(Qk c).length)
  (λi σ' g1 acc=>acc=mkD ((Qk c).take i)/\g1=g2/\∃u,σ'=[u,some (.ref d)]) (λi σ' g1 acc hi hQ=>by
   obtain⟨h1,h2,u,h3⟩:=hQ
   subst h2 h3
   have hm:=(Qf6 hg.up hg.nz).mp (UZ hi)
   refine⟨.int (Qk c)[i].1,[some (.int (Qk c)[i].1),some (.ref d)],g1,?_,rfl,.inl ⟨.tup [.int (Qk c)[i].1,.int ((Qk c)[i].2:Nat)],g1,rfl,?_,?_,rfl,_,rfl⟩⟩
   ·dsimp only
    rw[hg2]
    simp[hi]
   ·have:(Qb (mVar 0) (Qb (mOp2 pDIx (mVar 1) (mVar 0)) mNil)) [some (D.int (Qk c)[i].1),some (D.ref d)] g1=.ok [.int (Qk c)[i].1,.int ((Qk c)[i].2:Nat)] g1:=by
     refine Qz (g1:=g1) rfl (Qz (g1:=g1) (Qn (x:=.ref d) (y:=.int (Qk c)[i].1) (g1:=g1) (g2:=g1) rfl rfl ?_) rfl)
     unfold pDIx
     dsimp only
     rw[hd2]
     dsimp only
     rw[h.get,hm.2,Uh hm.1]
    unfold mOpA
    rw[this,Res.bind_ok]
    rfl
   ·rw[h1,U1 hi]
    unfold mkD
    rw[UV];rfl) (λσ g1 acc hQ=>by
   obtain⟨_,h2,_⟩:=hQ
   subst h2
   dsimp only
   rw[hg2]
   simp) ((Qk c).length+1) 0 [none,some (.ref d)] g2 [] (by omega) (by omega) ⟨rfl,rfl,none,rfl⟩
 rw[TW]at h2
 subst h2 h3
 have hc:=JP (σ0:=[none,some (.ref d)]) (n:=1) (cap:=[3]) hit (U3 (JN (show(Qk c).length<=1000 by omega))) rfl h1
 refine⟨g3++[.lst (mkD (Qk c))],QJ rfl ?_,(kk1.trans kk2).trans (.push _)⟩
 show Qdj [some (Qm c d),none,none,none] g=_
 unfold Qdj
 refine Qg [some (Qm c d),some (.int c.st),some (.int c.pl),some (.ref d)] g rfl (ZE ?_)
 have e3:(Qb (mVar 1) (Qb (mVar 2) (Qb (mOp1 Ym (ZO (QQ (mOp1 Qas (mOp1 Qa8 (mVar 3)))) 1 [3] (gSet 0) Yf (mOpA pTup (Qb (mVar 0) (Qb (mOp2 pDIx (mVar 1) (mVar 0)) mNil))))) mNil))) [some (Qm c d),some (.int c.st),some (.int c.pl),some (.ref d)] g=.ok [.int c.st,.int c.pl,.tup (mkD (Qk c))] (g3++[.lst (mkD (Qk c))]) :=
  Qz (g1:=g) rfl (Qz (g1:=g) rfl (Qz (ZW hc (by unfold Ym;dsimp only;rw[QD])) rfl))
 exact QaT e3 rfl
theorem JS{rows:List (List D)}:∀(k:Nat)(c:Cf),(runC rows k c).2<=k
 |0,c=>Ug _
 |k+1,c=>by
  cases h:Q5 rows c with
  |none=>rw[Zz h];exact TX _
  |some c'=>rw[ZM h];have:=JS (rows:=rows) k c';show(runC rows k c').2+1<=_;omega
theorem JT{rows:List (List D)}:∀(k j:Nat)(c:Cf),Q5 rows (runC rows k c).1=none->(runC rows k c).2<=j->runC rows j c=runC rows k c
 |0,0,c,_,_=>rfl
 |0,j+1,c,h,_=>by rw[Zz (show Q5 rows c=none from h)];rfl
 |k+1,j,c,h,hj=>by
  cases hs:Q5 rows c with
  |none =>
   rw[Zz hs]
   cases j with
   |zero=>rfl
   |succ j=>rw[Zz hs]
  |some c' =>
   rw[ZM hs]at h hj ⊢
   cases j with
   |zero=>exact absurd hj (by show ¬(runC rows k c').2+1<=0;omega)
   |succ j =>
    rw[ZM hs,JT k j c' h (by have:(runC rows k c').2+1<=j+1:=hj;omega)]
def ShR(g:G)(c:Cf)(x:D)(B:Nat):Prop:=∃d ks,x=Qm c d/\g[d]?=some (.dct ks)/\DOk ks (Qk c)/\ks.length<=B
theorem ShR.mono{S:List Nat}{g g1:G}{c:Cf}{x:D}{B:Nat}(h:ShR g c x B)(k:Keeps S g g1)(hS:∀n∈S,∃ds,g[n]?=some (.lst ds)):ShR g1 c x B:=by
 obtain⟨d,ks,h1,h2,h3,h4⟩:=h
 refine⟨d,ks,h1,k.at' _ _ (λz=>?_) h2,h3,h4⟩
 obtain⟨ds,hd⟩:=hS _ z
 rw[h2]at hd;cases hd
theorem Qes{rows:List (List D)}{n m B t r b:Nat}{steps:Int}{c:Cf}(T:Tb rows n m)(hF:Fine n m c)(hB:B<=r):∀(k j:Nat)(g:G)(ds:List D),(j:Int)+k=steps->(runC rows j c).2=j->tabB B g t rows->g[r]?=some (.lst ds)->ds.length=j+1->b+(j+k)<900->(∀i,i<=j->∃x,ds[i]?=some x/\ShR g (runC rows i c).1 x (b+j)) ->
  ∀x,ds[j]?=some x->∃g' ds',(QX (Qf (mOp2 pLe (mOp1 pLen (mVar 3)) (mVar 2))) ZD (k+1) [some (.ref t),some x,some (.int steps),some (.ref r)] g=.rt (.ref r) g'\/∃s',QX (Qf (mOp2 pLe (mOp1 pLen (mVar 3)) (mVar 2))) ZD (k+1) [some (.ref t),some x,some (.int steps),some (.ref r)] g=.nx [some (.ref t),s',some (.int steps),some (.ref r)] g') /\
   Keeps [r] g g'/\g'[r]?=some (.lst ds')/\ds'.length=(runC rows (j+k) c).2+1/\∀i,i<=(runC rows (j+k) c).2->∃y,ds'[i]?=some y/\ShR g' (runC rows i c).1 y (b+(j+k))
 |0,j,g,ds,hs,hj,hT,hr,hl,hz,hall,x,hx=>by
  refine⟨g,ds,.inr ⟨some x,?_⟩,.refl,hr,by show ds.length=(runC rows j c).2+1;rw[hj];exact hl,λi hi=>?_⟩
  ·have t1:Qf (mOp2 pLe (mOp1 pLen (mVar 3)) (mVar 2)) [some (.ref t),some x,some (.int steps),some (.ref r)] g=.ok false g:=QB (Qn (x:=.int ds.length) (y:=.int steps) (g1:=g) (g2:=g) (ZW (x:=.ref r) (g1:=g) rfl (by unfold pLen;dsimp only;rw[hr])) rfl (by
    show Res.ok (D.bl (decide ((ds.length:Int)<=steps))) g=_
    rw[Uq (by omega)]))
   unfold QX
   rw[t1]
  ·have hi:i<=(runC rows j c).2:=hi
   rw[hj]at hi
   obtain⟨y,h1,d,ks,h2,h3,h4,h5⟩:=hall i hi
   exact⟨y,h1,d,ks,h2,h3,h4,by omega⟩
 |k+1,j,g,ds,hs,hj,hT,hr,hl,hz,hall,x,hx=>by
  have t1:Qf (mOp2 pLe (mOp1 pLen (mVar 3)) (mVar 2)) [some (.ref t),some x,some (.int steps),some (.ref r)] g=.ok true g:=QB (Qn (x:=.int ds.length) (y:=.int steps) (g1:=g) (g2:=g) (ZW (x:=.ref r) (g1:=g) rfl (by unfold pLen;dsimp only;rw[hr])) rfl (by
   show Res.ok (D.bl (decide ((ds.length:Int)<=steps))) g=_
   rw[Us (by omega)]))
  obtain⟨x',hx',d,ks,e1,e2,e3,e4⟩:=hall j (Ug _)
  rw[hx]at hx'
  cases hx'
  subst e1
  have hFj:=Qdv T j c hF
  rcases QjW T hT hFj.ok hFj.good e2 (e3.cells hFj.good) (by omega) with⟨h1,h2⟩|⟨c',ks',g1,h1,o',w',h2,k1,h3,a,a0,h4,h5⟩
  ·have hst:=JT (rows:=rows) j (j+(k+1)) c h1 (by omega)
   rw[hst,hj]
   refine⟨g,ds,.inl ?_,.refl,hr,hl,λi hi=>?_⟩
   ·have b1:ZD [some (.ref t),some (Qm (runC rows j c).1 d),some (.int steps),some (.ref r)] g=.rt (.ref r) g:=by
     unfold ZD
     exact Qg [some (.ref t),some .non,some (.int steps),some (.ref r)] g (Qw (by rw[Qv (ds:=[.ref t,Qm (runC rows j c).1 d]) (g':=g) rfl];exact h2)) (ZL rfl)
    unfold QX
    rw[t1]
    dsimp only
    rw[b1]
   ·obtain⟨y,h1,d,ks,h2,h3,h4,h5⟩:=hall i hi
    exact⟨y,h1,d,ks,h2,h3,h4,by omega⟩
  ·have hr1:g1[r]?=some (.lst ds):=k1.at' _ _ (by simp) hr
   have hrl:r<g.length:=Q0 hr
   have hnext:runC rows (j+1) c=(c',j+1):=by
    rcases Jm (rows:=rows) j c with⟨_,⟨b,_⟩|⟨d2,b,q⟩⟩|⟨q,_⟩
    ·rw[h1]at b;cases b
    ·rw[h1]at b;cases b;exact q
    ·omega
   have b1:ZD [some (.ref t),some (Qm (runC rows j c).1 d),some (.int steps),some (.ref r)] g=.nx [some (.ref t),some (Qm c' g.length),some (.int steps),some (.ref r)] (g1.set r (.lst (ds++[Qm c' g.length]))):=by
    unfold ZD
    exact Qg [some (.ref t),some (Qm c' g.length),some (.int steps),some (.ref r)] g1 (Qw (by rw[Qv (ds:=[.ref t,Qm (runC rows j c).1 d]) (g':=g) rfl];exact h2)) (Qg [some (.ref t),some (Qm c' g.length),some (.int steps),some (.ref r)] g1 rfl (Qcc rfl hr1 rfl (Uw (show ds.length<1000 by omega) (by decide))))
   have k2:Keeps [r] g (g1.set r (.lst (ds++[Qm c' g.length]))):=(k1.all).trans (.set _ _)
   have hr2:(g1.set r (.lst (ds++[Qm c' g.length])))[r]?=some (.lst (ds++[Qm c' g.length])):=Q3 hr1
   have hd2:(g1.set r (.lst (ds++[Qm c' g.length])))[g.length]?=some (.dct ks'):=by rw[Ui (show r≠g.length by omega)];exact h3
   generalize g1.set r (.lst (ds++[Qm c' g.length]))=g2 at b1 k2 hr2 hd2
   have hdok:DOk ks' (Qk c'):=by rw[h4];exact e3.put hFj.good w' a0 h5
   have hkl:ks'.length<=ks.length+1:=by rw[h4];exact QjV _ _ _
   obtain⟨g',ds',q1,q2,q3,q4,q5⟩:=Qes (steps:=steps) (b:=b) T hF hB k (j+1) g2 (ds++[Qm c' g.length]) (by omega) (by rw[hnext]) (hT.mono k2 (λn hn=>by rw[Uf.mp hn];exact hB)) hr2 (by simp[hl]) (by omega) (λi hi=>by
    by_cases e:i=j+1
    ·subst e
     refine⟨Qm c' g.length,by simp[hl],g.length,ks',by rw[hnext],hd2,by rw[hnext];exact hdok,by omega⟩
    ·obtain⟨y,z1,z2⟩:=hall i (by omega)
     refine⟨y,by rw[Uy (by omega)];exact z1,?_⟩
     obtain⟨d',ks2,z3,z4,z5,z6⟩:=z2.mono k2 (λn hn=>⟨ds,by rw[Uf.mp hn];exact hr⟩)
     exact⟨d',ks2,z3,z4,z5,by omega⟩) (Qm c' g.length) (by simp[hl])
   have hw:QX (Qf (mOp2 pLe (mOp1 pLen (mVar 3)) (mVar 2))) ZD (k+1+1) [some (.ref t),some (Qm (runC rows j c).1 d),some (.int steps),some (.ref r)] g=QX (Qf (mOp2 pLe (mOp1 pLen (mVar 3)) (mVar 2))) ZD (k+1) [some (.ref t),some (Qm c' g.length),some (.int steps),some (.ref r)] g2:=by
    conv=>lhs;unfold QX
    rw[t1]
    dsimp only
    rw[b1]
   rw[hw]
   rw[show j+1+k=j+(k+1) by omega]at q4 q5
   exact⟨g',ds',q1,k2.trans q2,q3,q4,q5⟩
theorem QlR{rows:List (List D)}{n m t b:Nat}{c:Cf}{x:D}{g:G}(k:Nat)(hk:b+k<500)(T:Tb rows n m)(hF:Fine n m c)(hT:tabB g.length g t rows)(hx:ShR g c x b):
  ∃r g' ds',Qe8 [.ref t,x,.int k] g=.ok (.ref r) g'/\Keeps [] g g'/\g'[r]?=some (.lst ds')/\ds'.length=(runC rows k c).2+1/\∀i,i<=(runC rows k c).2->∃y,ds'[i]?=some y/\ShR g' (runC rows i c).1 y (b+k):=by
 have k0:Keeps [] g (g++[.lst [x]]):=.push _
 obtain⟨g',ds',q1,q2,q3,q4,q5⟩:=Qes (r:=g.length) (steps:=k) (b:=b) T hF (Ug _) k 0 (g++[.lst [x]]) [x] (by omega) rfl (hT.mono k0 (by simp)) (QD _) rfl (by omega) (λi hi=>by
  have:i=0:=by omega
  subst this
  refine⟨x,rfl,?_⟩
  obtain⟨d,ks,z3,z4,z5,z6⟩:=hx.mono k0 (by simp)
  exact⟨d,ks,z3,z4,z5,by omega⟩) x rfl
 rw[Wo]at q4 q5
 refine⟨g.length,g',ds',QJ rfl ?_,⟨Ux k0.len q2.len,λi o _ h=>q2.at' _ _ (by have:=Q0 h;simp;omega) (k0.at' _ _ (by simp) h)⟩,q3,q4,q5⟩
 show Qe7 [some (.ref t),some x,some (.int k),none] g=_
 unfold Qe7
 refine Qg [some (.ref t),some x,some (.int k),some (.ref g.length)] (g++[.lst [x]]) (Qw rfl) ?_
 rcases q1 with q1|⟨s',q1⟩
 ·exact ZL (QbL q1 (by simp))
 ·exact Qg _ _ (QbL q1 (by simp)) rfl
theorem Qci{α:Type}{P:Nat->α->Prop}:∀(n:Nat),(∀s,s<n->∃x,P s x)->∃xs:List α,xs.length=n/\∀s x,xs[s]?=some x->P s x
 |0,_=>⟨[],rfl,λs x h=>by simp at h⟩
 |n+1,h=>by
  obtain⟨xs,h1,h2⟩:=Qci n λs hs=>h s (by omega)
  obtain⟨x,hx⟩:=h n (by omega)
  refine⟨xs++[x],by simp[h1],λs y hy=>?_⟩
  by_cases e:s<n
  ·rw[Uy (by omega)]at hy;exact h2 s y hy
  ·have:=(Ue.mp hy).1
   have e':s=n:=by simp at this;omega
   subst e'
   rw[UJ (by omega)]at hy
   simp[h1]at hy
   rw[<-hy];exact hx
def TabI(N n m:Nat)(g:G)(t:Nat):Prop:=N<=t/\∃ds,g[t]?=some (.lst ds)/\ds.length=n/\∀(i:Nat) x,ds[i]?=some x->∃p r,x=.ref p/\N<=p/\p≠t/\g[p]?=some (.lst r)/\r.length=m/\∀d∈r,entOk d n m
theorem TabI.keep{N n m:Nat}{S:List Nat}{g g1:G}{t:Nat}(h:TabI N n m g t)(k:Keeps S g g1)(hS:∀n∈S,n<N):TabI N n m g1 t:=by
 obtain⟨h0,ds,h1,h2,h3⟩:=h
 refine⟨h0,ds,k.at' _ _ (λz=>by have:=hS _ z;omega) h1,h2,λi x hx=>?_⟩
 obtain⟨p,r,a,b,c,d,e,f⟩:=h3 i x hx
 exact⟨p,r,a,b,c,k.at' _ _ (λz=>by have:=hS _ z;omega) d,e,f⟩
theorem TabI.rows{N n m:Nat}{g:G}{t:Nat}(h:TabI N n m g t):∃rows,tabOf N g t rows/\rows.length=n/\(∀r∈rows,r.length=m)/\∀r∈rows,∀d∈r,entOk d n m:=by
 obtain⟨h0,ds,h1,h2,h3⟩:=h
 obtain⟨rows,l1,l2⟩:=Qci (P:=λi r=>∃p,ds[i]?=some (.ref p)/\N<=p/\p≠t/\g[p]?=some (.lst r)/\r.length=m/\∀d∈r,entOk d n m) n λs hs=>by
  obtain⟨p,r,a,b,c,d,e,f⟩:=h3 s ds[s] (by simp)
  exact⟨r,p,by rw[<-a];simp,b,c,d,e,f⟩
 refine⟨rows,⟨h0,ds,h1,by omega,λi x r hx hr=>?_⟩,l1,λr hr=>?_,λr hr=>?_⟩
 ·obtain⟨p,a,b,c,d,_⟩:=l2 i r hr
  rw[hx]at a
  exact⟨p,Option.some.inj a,b,c,d⟩
 ·obtain⟨i,hi⟩:=Rr hr
  obtain⟨p,_,_,_,_,e,_⟩:=l2 i r hi
  exact e
 ·obtain⟨i,hi⟩:=Rr hr
  obtain⟨p,_,_,_,_,_,f⟩:=l2 i r hi
  exact f
theorem TabI.of{N n m:Nat}{g:G}{t:Nat}{rows:List (List D)}(h:tabOf N g t rows)(h1:rows.length=n)(h2:∀r∈rows,r.length=m)(h3:∀r∈rows,∀d∈r,entOk d n m):TabI N n m g t:=by
 obtain⟨h0,ds,a,b,c⟩:=h
 refine⟨h0,ds,a,by omega,λi x hx=>?_⟩
 have hi:i<rows.length:=by rw[<-b];exact(Ue.mp hx).1
 obtain⟨p,e1,e2,e3,e4⟩:=c i x rows[i] hx (by simp)
 exact⟨p,rows[i],e1,e2,e3,e4,h2 _ (UZ hi),h3 _ (UZ hi)⟩
theorem TabI.put{N n m i j:Nat}{g:G}{t:Nat}{d:D}(h:TabI N n m g t)(hi:i<n)(hj:j<m)(hd:entOk d n m):∃p r e,(∃ds,g[t]?=some (.lst ds)/\ds[i]?=some (.ref p))/\g[p]?=some (.lst r)/\r[j]?=some e/\entOk e n m/\N<=p/\TabI N n m (g.set p (.lst (r.set j d))) t:=by
 obtain⟨h0,ds,h1,h2,h3⟩:=h
 obtain⟨p,r,a,b,c,q,e,f⟩:=h3 i ds[i] (by simp)
 have hjr:j<r.length:=by omega
 refine⟨p,r,r[j],⟨ds,h1,by rw[<-a];simp⟩,q,by simp,f _ (UZ hjr),b,h0,ds,by rw[Ui (by omega)];exact h1,h2,λk x hx=>?_⟩
 obtain⟨p',r',a',b',c',q',e',f'⟩:=h3 k x hx
 by_cases z:p'=p
 ·subst z
  refine⟨p',r.set j d,a',b',c',Q3 q,by simp[e],λy hy=>?_⟩
  rcases List.mem_or_eq_of_mem_set hy with w|w
  ·exact f y w
  ·rw[w];exact hd
 ·exact⟨p',r',a',b',c',by rw[Ui (λw=>z w.symm)];exact q',e',f'⟩
theorem Qcj{A B:MT}{σ:S3}{g:G}{x y:Bool}(h1:A σ g=.ok x g)(h2:B σ g=.ok y g):ZN A B σ g=.ok (x && y) g:=by
 unfold ZN;rw[h1,Res.bind_ok];cases x
 ·rfl
 ·rw[Uc rfl,h2];rfl
theorem KeepsN.set{N p:Nat}{S:List Nat}{g:G}{o:GO}(h:N<=p):KeepsN N S g (g.set p o):=⟨by simp,λn u l _ e=>by rw[Ui (by omega)];exact e⟩
theorem Qnz(ns:List Int){N n m i j a t:Nat}{mm:Int}{g:G}(h:TabI N n m g t)(hn:0<n)(hm:0<m)(hi:i<n)(hj:j<m):
  ∃g1 g',(mIf (ZN (Qf (mOp2 pEq (mOp2 pMod (mVar 2) (mLit (.int 3))) (mLit (.int 0)))) (Qf (mOp2 YB (mOp2 pIx (mOp2 pIx (mVar 5) (mVar 6)) (mVar 7)) (mLit .non)))) (Jt (mOp2 pIx (mVar 5) (mVar 6)) (mVar 7) (mOpA pTup (Qb (mOp2 pIx (mOp2 pIx (mOp2 pIx (mVar 5) (mVar 6)) (mVar 7)) (mLit (.int 0))) (Qb (mOp2 pIx (mOp2 pIx (mOp2 pIx (mVar 5) (mVar 6)) (mVar 7)) (mLit (.int 1))) (Qb (mVar 6) mNil))))) QN) [some (.fl (ns.map .int)),some (.ref a),some (.int mm),some (.int n),some (.int m),some (.ref t),some (.int i),some (.int j)] g=.nx [some (.fl (ns.map .int)),some (.ref a),some (.int mm),some (.int n),some (.int m),some (.ref t),some (.int i),some (.int j)] g1 /\
   (mIf (ZN (Qf (mOp2 pGt (mOp2 pMod (mOp2 Z8 (mVar 2) (mLit (.int 3))) (mLit (.int 7))) (mLit (.int 1)))) (Qf (mOp2 pIs (mOp2 pIx (mOp2 pIx (mVar 5) (mVar 6)) (mVar 7)) (mLit .non)))) (Jt (mOp2 pIx (mVar 5) (mVar 6)) (mVar 7) (mOpA pTup (Qb (mOp2 pMod (mOp2 Z8 (mVar 2) (mLit (.int 30))) (mVar 4)) (Qb (mOp2 pIx (mLit (.str "lr")) (mOp2 pMod (mOp2 Z8 (mVar 2) (mLit (.int 300))) (mLit (.int 2)))) (Qb (mOp2 pMod (mOp2 Z8 (mVar 2) (mLit (.int 600))) (mVar 3)) mNil))))) QN) [some (.fl (ns.map .int)),some (.ref a),some (.int mm),some (.int n),some (.int m),some (.ref t),some (.int i),some (.int j)] g1=.nx [some (.fl (ns.map .int)),some (.ref a),some (.int mm),some (.int n),some (.int m),some (.ref t),some (.int i),some (.int j)] g'/\TabI N n m g' t/\KeepsN N [] g g':=by
 have row:∀{g:G}{ds:List D}{p:Nat},g[t]?=some (.lst ds)->ds[i]?=some (.ref p)->mOp2 pIx (mVar 5) (mVar 6) [some (.fl (ns.map .int)),some (.ref a),some (.int mm),some (.int n),some (.int m),some (.ref t),some (.int i),some (.int j)] g=.ok (.ref p) g:=λh1 h2=>Qn (x:=.ref t) (y:=.int i) (g1:=_) (g2:=_) rfl rfl (JQ h1 h2)
 have cell:∀{g:G}{ds r:List D}{p:Nat}{e:D},g[t]?=some (.lst ds)->ds[i]?=some (.ref p)->g[p]?=some (.lst r)->r[j]?=some e->mOp2 pIx (mOp2 pIx (mVar 5) (mVar 6)) (mVar 7) [some (.fl (ns.map .int)),some (.ref a),some (.int mm),some (.int n),some (.int m),some (.ref t),some (.int i),some (.int j)] g=.ok e g:=λh1 h2 h3 h4=>Qn (y:=.int j) (g2:=_) (row h1 h2) rfl (JQ h3 h4)
 have A:∃g1,mIf (ZN (Qf (mOp2 pEq (mOp2 pMod (mVar 2) (mLit (.int 3))) (mLit (.int 0)))) (Qf (mOp2 YB (mOp2 pIx (mOp2 pIx (mVar 5) (mVar 6)) (mVar 7)) (mLit .non)))) (Jt (mOp2 pIx (mVar 5) (mVar 6)) (mVar 7) (mOpA pTup (Qb (mOp2 pIx (mOp2 pIx (mOp2 pIx (mVar 5) (mVar 6)) (mVar 7)) (mLit (.int 0))) (Qb (mOp2 pIx (mOp2 pIx (mOp2 pIx (mVar 5) (mVar 6)) (mVar 7)) (mLit (.int 1))) (Qb (mVar 6) mNil))))) QN [some (.fl (ns.map .int)),some (.ref a),some (.int mm),some (.int n),some (.int m),some (.ref t),some (.int i),some (.int j)] g=.nx [some (.fl (ns.map .int)),some (.ref a),some (.int mm),some (.int n),some (.int m),some (.ref t),some (.int i),some (.int j)] g1/\TabI N n m g1 t/\KeepsN N [] g g1:=by
  obtain⟨p,r,e,⟨ds,h1,h2⟩,h3,h4,h5,h6,_⟩:=h.put (d:=.non) hi hj (.inl rfl)
  have t1:Qf (mOp2 pEq (mOp2 pMod (mVar 2) (mLit (.int 3))) (mLit (.int 0))) [some (.fl (ns.map .int)),some (.ref a),some (.int mm),some (.int n),some (.int m),some (.ref t),some (.int i),some (.int j)] g=.ok (mm%3 == 0) g:=QB (Qn (x:=.int (mm%3)) (y:=.int 0) (g1:=g) (g2:=g) (Qn rfl rfl (modP (by decide))) rfl rfl)
  have t2:Qf (mOp2 YB (mOp2 pIx (mOp2 pIx (mVar 5) (mVar 6)) (mVar 7)) (mLit .non)) [some (.fl (ns.map .int)),some (.ref a),some (.int mm),some (.int n),some (.int m),some (.ref t),some (.int i),some (.int j)] g=.ok (!isNon e) g:=QB (Qn (x:=e) (g1:=g) (cell h1 h2 h3 h4) rfl rfl)
  cases hb:(mm%3 == 0) && !isNon e with
  |false=>exact⟨g,iff' g (by rw[Qcj t1 t2,hb]) rfl,h,.refl⟩
  |true =>
   have hne:isNon e=false:=by rw[UD]at hb;simpa using hb.2
   rcases id h5 with rfl|⟨x,y,w,rfl,x0,xm,y0,yn,ww⟩
   ·cases hne
   ·have hnew:entOk (.tup [.int x,.str w,.int i]) n m:=.inr ⟨x,i,w,rfl,x0,xm,by omega,by omega,ww⟩
    obtain⟨p',r',e',⟨ds',h1',h2'⟩,h3',h4',_,h6',h7'⟩:=h.put (d:=.tup [.int x,.str w,.int i]) hi hj hnew
    rw[h1]at h1';cases h1'
    rw[h2]at h2';cases h2'
    rw[h3]at h3';cases h3'
    refine⟨_,ift g (by rw[Qcj t1 t2,hb]) (QfX (y:=.tup [.int x,.str w,.int i]) (g1:=g) ?_ (row h1 h2) rfl h3 (Ue.mp h4).1),h7',.set h6⟩
    exact QaT (Qz (g1:=g) (Qn (x:=.tup [.int x,.str w,.int y]) (y:=.int 0) (g1:=g) (g2:=g) (cell h1 h2 h3 h4) rfl rfl) (Qz (g1:=g) (Qn (x:=.tup [.int x,.str w,.int y]) (y:=.int 1) (g1:=g) (g2:=g) (cell h1 h2 h3 h4) rfl rfl) (Qz (g1:=g) rfl rfl))) rfl
 obtain⟨g1,a1,a2,a3⟩:=A
 obtain⟨p,r,e,⟨ds,h1,h2⟩,h3,h4,h5,h6,_⟩:=a2.put (d:=.non) hi hj (.inl rfl)
 have t1:Qf (mOp2 pGt (mOp2 pMod (mOp2 Z8 (mVar 2) (mLit (.int 3))) (mLit (.int 7))) (mLit (.int 1))) [some (.fl (ns.map .int)),some (.ref a),some (.int mm),some (.int n),some (.int m),some (.ref t),some (.int i),some (.int j)] g1=.ok (decide (1<mm/3%7)) g1:=QB (Qn (x:=.int (mm/3%7)) (y:=.int 1) (g1:=g1) (g2:=g1) (Qn (x:=.int (mm/3)) (y:=.int 7) (g1:=g1) (g2:=g1) (Qn rfl rfl (divP (by decide) (by decide))) rfl (modP (by decide))) rfl rfl)
 have t2:Qf (mOp2 pIs (mOp2 pIx (mOp2 pIx (mVar 5) (mVar 6)) (mVar 7)) (mLit .non)) [some (.fl (ns.map .int)),some (.ref a),some (.int mm),some (.int n),some (.int m),some (.ref t),some (.int i),some (.int j)] g1=.ok (isNon e) g1:=QB (Qn (x:=e) (g1:=g1) (cell h1 h2 h3 h4) rfl rfl)
 cases hb:decide (1<mm/3%7) && isNon e with
 |false=>exact⟨g1,g1,a1,iff' g1 (by rw[Qcj t1 t2,hb]) rfl,a2,a3⟩
 |true =>
  obtain⟨w,hw,ww⟩:=Qnq (mm/300) g1
  have hm':(0:Int)<m:=by omega
  have hn':(0:Int)<n:=by omega
  have hnew:entOk (.tup [.int (mm/30%m),.str w,.int (mm/600%n)]) n m:=.inr ⟨_,_,w,rfl,Te _ (by omega),UX _ hm',Te _ (by omega),UX _ hn',ww⟩
  obtain⟨p',r',e',⟨ds',h1',h2'⟩,h3',h4',_,h6',h7'⟩:=a2.put (d:=.tup [.int (mm/30%m),.str w,.int (mm/600%n)]) hi hj hnew
  rw[h1]at h1';cases h1'
  rw[h2]at h2';cases h2'
  rw[h3]at h3';cases h3'
  refine⟨g1,_,a1,ift g1 (by rw[Qcj t1 t2,hb]) (QfX (y:=.tup [.int (mm/30%m),.str w,.int (mm/600%n)]) (g1:=g1) ?_ (row h1 h2) rfl h3 (Ue.mp h4).1),h7',a3.trans (.set h6)⟩
  refine QaT (Qz (g1:=g1) (Qn (x:=.int (mm/30)) (y:=.int m) (g1:=g1) (g2:=g1) (Qn rfl rfl (divP (by decide) (by decide))) rfl (modP hm')) (Qz (g1:=g1) (Qn (x:=.str "lr") (y:=.int (mm/300%2)) (g1:=g1) (g2:=g1) rfl (Qn (x:=.int (mm/300)) (y:=.int 2) (g1:=g1) (g2:=g1) (Qn rfl rfl (divP (by decide) (by decide))) rfl (modP (by decide))) hw) (Qz (g1:=g1) (Qn (x:=.int (mm/600)) (y:=.int n) (g1:=g1) (g2:=g1) (Qn rfl rfl (divP (by decide) (by decide))) rfl (modP hn')) rfl))) rfl
theorem QlS(ns:List Int){N n m i j a t:Nat}{k:Int}{x2:Option D}{g:G}(h:TabI N n m g t)(hn:0<n)(hm:0<m)(hi:i<n)(hj:j<m)(haN:a<N)(ga:g[a]?=some (.lst [.int k]))(hk:0<=k)(hk2:k<900000000):
  ∃y2 g',Zc [some (.fl (ns.map .int)),some (.ref a),x2,some (.int n),some (.int m),some (.ref t),some (.int i),some (.int j)] g=.nx [some (.fl (ns.map .int)),some (.ref a),y2,some (.int n),some (.int m),some (.ref t),some (.int i),some (.int j)] g'/\TabI N n m g' t/\KeepsN N [a] g g'/\g'[a]?=some (.lst [.int (k+1)]):=by
 obtain⟨q,q0,q1,e1⟩:=Qdo ns a k g ga hk (by omega)
 have k1:Keeps [a] g (g.set a (.lst [.int (k+1)])):=.set _ _
 have ga1:(g.set a (.lst [.int (k+1)]))[a]?=some (.lst [.int (k+1)]):=Q3 ga
 generalize g.set a (.lst [.int (k+1)])=g1 at e1 ga1 k1
 obtain⟨g2,g3,e2,e3,h3,k3⟩:=Qnz ns (mm:=q) (a:=a) (h.keep k1 (λz hz=>by rw[Uf.mp hz];exact haN)) hn hm hi hj
 refine⟨some (.int q),g3,?_,h3,(k1.n (T:=[a]) λz hz _=>hz).trans ⟨k3.len,λz o l _ e=>k3.at' z o l (by simp) e⟩,k3.at' _ _ haN (by simp) ga1⟩
 unfold Zc
 exact Qg [some (.fl (ns.map .int)),some (.ref a),some (.int q),some (.int n),some (.int m),some (.ref t),some (.int i),some (.int j)] g1 (Qw (by rw[Qv (ds:=[.fl (ns.map .int),.ref a]) (g':=g) rfl];exact e1)) (Qg _ g2 e2 e3)
theorem QnA(ns:List Int){N n m i a t:Nat}{k:Int}{x2 x7:Option D}{g:G}(h:TabI N n m g t)(hn:0<n)(hm:0<m)(hm8:m<=8)(hi:i<n)(haN:a<N)(ga:g[a]?=some (.lst [.int k]))(hk:0<=k)(hk2:k<800000000):
  ∃y2 y7 g',Zd [some (.fl (ns.map .int)),some (.ref a),x2,some (.int n),some (.int m),some (.ref t),some (.int i),x7] g=.nx [some (.fl (ns.map .int)),some (.ref a),y2,some (.int n),some (.int m),some (.ref t),some (.int i),y7] g'/\TabI N n m g' t/\KeepsN N [a] g g'/\g'[a]?=some (.lst [.int (k+m)]):=by
 obtain⟨σ',g',e,⟨y2,y7,i1⟩,i2,i3,i4⟩:=JL (t:=gSet 7) (body:=Zc) (lo:=0) (n:=m) (σ:=[some (.fl (ns.map .int)),some (.ref a),x2,some (.int n),some (.int m),some (.ref t),some (.int i),x7]) (g:=g)
  (λj σ g1=>(∃y2 y7,σ=[some (.fl (ns.map .int)),some (.ref a),y2,some (.int n),some (.int m),some (.ref t),some (.int i),y7])/\TabI N n m g1 t/\KeepsN N [a] g g1/\g1[a]?=some (.lst [.int (k+j)])) ⟨⟨_,_,rfl⟩,h,.refl,by simpa using ga⟩ (λj σ g1 hj hQ=>by
   obtain⟨⟨y2,y7,i1⟩,i2,i3,i4⟩:=hQ
   subst i1
   obtain⟨z2,g2,e2,j2,j3,j4⟩:=QlS ns (x2:=y2) i2 hn hm hi hj haN i4 (by omega) (by omega)
   refine⟨_,[some (.fl (ns.map .int)),some (.ref a),z2,some (.int n),some (.int m),some (.ref t),some (.int i),some (.int j)],g2,rfl,?_,⟨_,_,rfl⟩,j2,i3.trans j3,?_⟩
   ·show Zc [some (.fl (ns.map .int)),some (.ref a),y2,some (.int n),some (.int m),some (.ref t),some (.int i),some (.int (0+j))] g1=_
    rw[Bn];exact e2
   ·rw[j4]
    have:k+(j:Int)+1=k+((j+1:Nat):Int):=by omega
    rw[this])
 rw[i1]at e
 refine⟨y2,y7,g',?_,i2,i3,i4⟩
 unfold Zd
 exact(YJ (JO rfl (QaP (by omega)))).trans e
theorem QnB{ds:List Int}{q:Int}{g:G}{σ:S3}{l e:ME}(hl:l σ g=.ok (.ref g.length) (g++[.lst (ds.map .int)]))(hd:ds.length=6)(he:e σ (g++[.lst (ds.map .int)])=.ok (.int (q%6)) (g++[.lst (ds.map .int)])):∃x∈ds,mOp2 pIx l e σ g=.ok (.int x) (g++[.lst (ds.map .int)]):=by
 have h0:=Te q (show(6:Int)≠0 by decide)
 have h1:=UX q (show(0:Int)<6 by decide)
 have hi:(q%6).toNat<ds.length:=by omega
 refine⟨ds[(q%6).toNat],UZ hi,Qn hl he (Qnr (QD _) h0 ?_)⟩
 simp[hi]
theorem Qdx(ns:List Int)(a:Nat)(k:Int)(g:G)(ga:g[a]?=some (.lst [.int k]))(hk:0<=k)(hk2:k<700000000):
  ∃rows n m t g' k',Y8 [.fl (ns.map .int),.ref a] g=.ok (.ref t) g'/\Keeps [a] g g'/\g'[a]?=some (.lst [.int k'])/\k<=k'/\k'<=k+200/\tabOf g.length g' t rows/\Tb rows n m:=by
 obtain⟨q,q0,q1,e1⟩:=Qdo ns a k g ga hk (by omega)
 have hal:a<g.length:=Q0 ga
 have k1:Keeps [a] g (g.set a (.lst [.int (k+1)])):=.set _ _
 have hl1:(g.set a (.lst [.int (k+1)])).length=g.length:=by simp
 have ga1:(g.set a (.lst [.int (k+1)]))[a]?=some (.lst [.int (k+1)]):=Q3 ga
 generalize g.set a (.lst [.int (k+1)])=g1 at e1 ga1 k1 hl1
 obtain⟨x,hx,e2⟩:=QnB (ds:=[1,2,2,3,3,4]) (q:=q) (g:=g1) (σ:=[some (.fl (ns.map .int)),some (.ref a),some (.int q),none,none,none,none,none]) (l:=mOpA newL (Qb (mLit (.int 1)) (Qb (mLit (.int 2)) (Qb (mLit (.int 2)) (Qb (mLit (.int 3)) (Qb (mLit (.int 3)) (Qb (mLit (.int 4)) mNil))))))) (e:=mOp2 pMod (mVar 2) (mLit (.int 6))) (by simp[mOpA,Qb,mLit,mNil,Res.bind,newL,SZ]) rfl (Qn rfl rfl (modP (by decide)))
 have hx':1<=x/\x<=4:=by simp at hx;omega
 have k2:Keeps [a] g1 (g1++[.lst ([1,2,2,3,3,4].map .int)]):=.push _
 have ga2:(g1++[.lst ([1,2,2,3,3,4].map .int)])[a]?=some (.lst [.int (k+1)]):=(Keeps.push (S:=[]) _).at' _ _ (by simp) ga1
 generalize g1++[.lst ([1,2,2,3,3,4].map .int)]=g2 at e2 k2 ga2
 obtain⟨y,hy,e3⟩:=QnB (ds:=[2,2,3,2,4,1]) (q:=q/6) (g:=g2) (σ:=[some (.fl (ns.map .int)),some (.ref a),some (.int q),some (.int x),none,none,none,none]) (l:=mOpA newL (Qb (mLit (.int 2)) (Qb (mLit (.int 2)) (Qb (mLit (.int 3)) (Qb (mLit (.int 2)) (Qb (mLit (.int 4)) (Qb (mLit (.int 1)) mNil))))))) (e:=mOp2 pMod (mOp2 Z8 (mVar 2) (mLit (.int 6))) (mLit (.int 6))) (by simp[mOpA,Qb,mLit,mNil,Res.bind,newL,SZ]) rfl (Qn (x:=.int (q/6)) (Qn rfl rfl (divP (by decide) (by decide))) rfl (modP (by decide)))
 have hy':1<=y/\y<=4:=by simp at hy;omega
 have k3:Keeps [a] g2 (g2++[.lst ([2,2,3,2,4,1].map .int)]):=.push _
 have ga3:(g2++[.lst ([2,2,3,2,4,1].map .int)])[a]?=some (.lst [.int (k+1)]):=(Keeps.push (S:=[]) _).at' _ _ (by simp) ga2
 generalize g2++[.lst ([2,2,3,2,4,1].map .int)]=g3 at e3 k3 ga3
 have e4:∃n m:Nat,0<n/\0<m/\n<=5/\m<=8/\mIf (Qf (mOp2 pEq (mOp2 pMod (mOp2 Z8 (mVar 2) (mLit (.int 36))) (mLit (.int 13))) (mLit (.int 0)))) (mAsg (Yo [(gSet 3),(gSet 4)]) (mOpA pTup (Qb (mLit (.int 5)) (Qb (mLit (.int 8)) mNil)))) QN [some (.fl (ns.map .int)),some (.ref a),some (.int q),some (.int x),some (.int y),none,none,none] g3=.nx [some (.fl (ns.map .int)),some (.ref a),some (.int q),some (.int n),some (.int m),none,none,none] g3:=by
  have t1:Qf (mOp2 pEq (mOp2 pMod (mOp2 Z8 (mVar 2) (mLit (.int 36))) (mLit (.int 13))) (mLit (.int 0))) [some (.fl (ns.map .int)),some (.ref a),some (.int q),some (.int x),some (.int y),none,none,none] g3=.ok (q/36%13 == 0) g3:=QB (Qn (x:=.int (q/36%13)) (y:=.int 0) (g1:=g3) (g2:=g3) (Qn (x:=.int (q/36)) (y:=.int 13) (g1:=g3) (g2:=g3) (Qn rfl rfl (divP (by decide) (by decide))) rfl (modP (by decide))) rfl rfl)
  cases hb:(q/36%13 == 0) with
  |true=>rw[hb]at t1;exact⟨5,8,by decide,by decide,by decide,by decide,ift g3 t1 rfl⟩
  |false =>
   rw[hb]at t1
   refine⟨x.toNat,y.toNat,by omega,by omega,by omega,by omega,iff' g3 t1 ?_⟩
   rw[T4 (by omega),T4 (by omega)];rfl
 obtain⟨n,m,hn,hm,hn5,hm8,e4⟩:=e4
 have k03:=(k1.trans k2).trans k3
 have hal3:a<g3.length:=Q0 ga3
 have hgl:g.length<=g3.length:=k03.len
 obtain⟨rows0,g4,e5,k4,ga4,hT4,r1,r2,r3⟩:=QjI ns a (k+1) n m g3 hn hm (by omega) hm8 ga3 (by omega) (by omega)
 have hI:=TabI.of hT4 r1 r2 r3
 have hnm0:(0:Int)<=(n:Int)*m:=Int.mul_nonneg (Int.natCast_nonneg _) (Int.natCast_nonneg _)
 have hnm:(n:Int)*m<=40:=by
  have:n*m<=5*8:=Nat.mul_le_mul hn5 hm8
  exact_mod_cast this
 obtain⟨σ',g5,e6,⟨y2,y6,y7,i1⟩,i2,i3,i4⟩:=JL (t:=gSet 6) (body:=Zd) (lo:=0) (n:=n) (σ:=[some (.fl (ns.map .int)),some (.ref a),some (.int q),some (.int n),some (.int m),some (.ref g3.length),none,none]) (g:=g4)
  (λi σ g1=>(∃y2 y6 y7,σ=[some (.fl (ns.map .int)),some (.ref a),y2,some (.int n),some (.int m),some (.ref g3.length),y6,y7])/\TabI g3.length n m g1 g3.length/\KeepsN g3.length [a] g4 g1/\∃kk,g1[a]?=some (.lst [.int kk])/\k+1+n*m<=kk/\kk<=k+1+n*m+8*i) ⟨⟨_,_,_,rfl⟩,hI,.refl,_,ga4,by omega,by omega⟩ (λi σ g5 hi hQ=>by
   obtain⟨⟨y2,y6,y7,i1⟩,i2,i3,kk,i4,i5,i6⟩:=hQ
   subst i1
   obtain⟨z2,z7,g6,e6,j2,j3,j4⟩:=QnA ns (x2:=y2) (x7:=y7) i2 hn hm hm8 hi hal3 i4 (by omega) (by omega)
   refine⟨_,[some (.fl (ns.map .int)),some (.ref a),z2,some (.int n),some (.int m),some (.ref g3.length),some (.int i),z7],g6,rfl,?_,⟨_,_,_,rfl⟩,j2,i3.trans j3,_,j4,by omega,by omega⟩
   show Zd [some (.fl (ns.map .int)),some (.ref a),y2,some (.int n),some (.int m),some (.ref g3.length),some (.int (0+i)),y7] g5=_
   rw[Bn];exact e6)
 rw[i1]at e6
 obtain⟨kk,i4,i5,i6⟩:=i4
 obtain⟨rows,t1,t2,t3,t4⟩:=i2.rows
 refine⟨rows,n,m,g3.length,g5,kk,QJ rfl ?_,?_,i4,by omega,by omega,?_,⟨hn,hm,by omega,hm8,t2,t3,t4⟩⟩
 ·show Y7 [some (.fl (ns.map .int)),some (.ref a),none,none,none,none,none,none] g=_
  unfold Y7
  refine Qg [some (.fl (ns.map .int)),some (.ref a),some (.int q),none,none,none,none,none] g1 (Qw (by rw[Qv (ds:=[.fl (ns.map .int),.ref a]) (g':=g) rfl];exact e1)) ?_
  refine Qg [some (.fl (ns.map .int)),some (.ref a),some (.int q),some (.int x),none,none,none,none] g2 (Qw e2) ?_
  refine Qg [some (.fl (ns.map .int)),some (.ref a),some (.int q),some (.int x),some (.int y),none,none,none] g3 (Qw e3) ?_
  refine Qg _ g3 e4 ?_
  refine Qg [some (.fl (ns.map .int)),some (.ref a),some (.int q),some (.int n),some (.int m),some (.ref g3.length),none,none] g4 (Qw (by rw[Qv (ds:=[.fl (ns.map .int),.ref a,.int n,.int m]) (g':=g3) rfl];exact e5)) ?_
  exact Qg _ g5 ((YJ (JO rfl (QaP (by omega)))).trans e6) rfl
 ·refine⟨Ux k03.len (Ux k4.len i3.len),λz o hz e=>?_⟩
  have hzl:z<g.length:=Q0 e
  exact i3.at' z o (by omega) hz (k4.at' z o hz (k03.at' z o hz e))
 ·obtain⟨u0,ds,u1,u2,u3⟩:=t1
  refine⟨by omega,ds,u1,u2,λi x r hx hr=>?_⟩
  obtain⟨p,v1,v2,v3,v4⟩:=u3 i x r hx hr
  exact⟨p,v1,by omega,v3,v4⟩
theorem Qiz{rows:List (List D)}:∀(k:Nat)(c:Cf),(runC rows k c).2<k->Q5 rows (runC rows k c).1=none
 |0,c,h=>absurd h (Ti _)
 |k+1,c,h=>by
  cases hs:Q5 rows c with
  |none=>rw[Zz hs];exact hs
  |some c'=>rw[ZM hs]at h ⊢;exact Qiz k c' (by have:(runC rows k c').2+1<k+1:=h;omega)
theorem Qfh{rows:List (List D)}{k l:Nat}(h:l<=(runC rows k c0).2):done rows l:=by
 rcases Jm (rows:=rows) l c0 with⟨a,_⟩|⟨a,_⟩
 ·exact a
 ·have:=JT (rows:=rows) l k c0 (Qiz l c0 a) (by have:=JS (rows:=rows) k c0;omega)
  rw[this]at h
  omega
theorem tabB.len{B:Nat}{g:G}{t:Nat}{rows:List (List D)}(h:tabB B g t rows):tabB g.length g t rows:=by
 obtain⟨z0,zd,z1,z2⟩:=h
 refine⟨Q0 z1,zd,z1,λi row hr=>?_⟩
 obtain⟨w,_,b,c⟩:=z2 i row hr
 exact⟨w,Q0 c,b,c⟩
section
variable{rows:List (List D)}{n m:Nat}
theorem Qgc{A C:MT}{σ:S3}{g:G}{x y:Bool}(h1:A σ g=.ok x g)(h2:C σ g=.ok y g):mOrT A C σ g=.ok (x || y) g:=by
 unfold mOrT;rw[h1,Res.bind_ok];cases x
 ·rw[Uh Ud,h2];rfl
 ·rfl
theorem QiA{A:MT}{σ:S3}{g:G}{x:Bool}(h1:A σ g=.ok x g):QaB A σ g=.ok (!x) g:=by unfold QaB;rw[h1];rfl
theorem QlT{c:Cf}{d:Nat}(g:G):pIx (Qm c d) (.int 1) g=.ok (.int c.pl) g:=rfl
theorem QlU:∀{is:List Int}{M:Int},M∈is->(∀a∈is,M<=a)->minZ is=some M
 |[],_,h,_=>(Tn h).elim
 |i::r,M,h,hm=>by
  cases hr:minZ r with
  |none =>
   cases r with
   |nil=>unfold minZ;rw[hr];rw[Uf.mp h]
   |cons j r' =>
    unfold minZ at hr
    cases h2:minZ r' with
    |none=>rw[h2]at hr;cases hr
    |some k=>rw[h2]at hr;cases hr
  |some j =>
   unfold minZ
   rw[hr]
   dsimp only
   have hj:j∈r/\∀a∈r,j<=a:=Qdh hr
   have h1:=hm i (Ur ..)
   have h2:=hm j (Ut _ hj.1)
   rcases Uu.mp h with e|e
   ·by_cases z:j<i
    ·omega
    ·rw[Uh z,e]
   ·have h3:=hj.2 M e
    by_cases z:j<i
    ·rw[Uc z];congr 1;omega
    ·rw[Uh z];congr 1;omega
theorem QiB:∀{is:List Int},is≠[]->∃M,maxZ is=some M
 |[],h=>absurd rfl h
 |i::r,_=>by
  unfold maxZ
  cases maxZ r with
  |none=>exact⟨_,rfl⟩
  |some j=>exact⟨_,rfl⟩
theorem QlV{is:List Int}{M:Int}(h:M∈is)(hm:∀a∈is,a<=M):maxZ is=some M:=by
 obtain⟨K,hK⟩:=QiB (is:=is) (λz=>by rw[z]at h;exact(Tn h).elim)
 obtain⟨q1,q2⟩:=Qdi hK
 have:=hm K q1
 have:=q2 M h
 rw[hK];congr 1;omega
theorem QkK(f:Nat):∀j,∃i,i<=j/\lo rows f j=(cfg rows (f+i)).pl
 |0=>⟨0,Ug _,rfl⟩
 |j+1=>by
  obtain⟨i,h1,h2⟩:=QkK f j
  unfold lo
  split
  ·exact⟨j+1,Ug _,rfl⟩
  ·exact⟨i,by omega,h2⟩
theorem QkL(f:Nat):∀j,∃i,i<=j/\hi rows f j=(cfg rows (f+i)).pl
 |0=>⟨0,Ug _,rfl⟩
 |j+1=>by
  obtain⟨i,h1,h2⟩:=QkL f j
  unfold hi
  split
  ·exact⟨j+1,Ug _,rfl⟩
  ·exact⟨i,by omega,h2⟩
noncomputable def plsD(rows:List (List D))(f k:Nat):List Int:=(List.range k).map λi=>(cfg rows (f+i)).pl
theorem mem_pls{f k:Nat}{a:Int}:a∈plsD rows f k↔∃i,i<k/\a=(cfg rows (f+i)).pl:=by
 unfold plsD
 rw[Rk]
 constructor
 ·rintro ⟨i,h1,h2⟩;exact⟨i,T1.mp h1,h2.symm⟩
 ·rintro ⟨i,h1,h2⟩;exact⟨i,T1.mpr h1,h2.symm⟩
theorem QiC{p:Nat}{ps:List D}{o:ME}{lo hi:MO}{l h:Option Int}{σ:S3}{g g1:G}(ho:o σ g=.ok (.ref p) g1)(h1:lo σ g1=.ok l g1)(h2:hi σ g1=.ok h g1)(hp:g1[p]?=some (.lst ps)):QcP o lo hi σ g=.ok (.ref g1.length) (g1++[.lst (cutD ps l h)]):=by
 unfold QcP
 rw[ho,Res.bind_ok,h1,Res.bind_ok,h2,Res.bind_ok]
 unfold Qhp
 dsimp only
 rw[hp]
theorem QlW{α:Type}{xs:List α}{a b:Nat}(ha:a<=b)(hb:b<=xs.length):cutD xs (some (a:Int)) (some (b:Int))=(xs.drop a).take (b-a):=by
 unfold cutD sIxD
 dsimp only
 rw[Uh (by omega),Uh (by omega),T0,T0,Nat.min_eq_left hb,Nat.min_eq_left (show a<=xs.length by omega)]
theorem QiD{w l r:Nat}{c:Cf}{g:G}(T:Tb rows n m)(h:Fine n m c)(hz:c.L.length+c.R.length<900)(W:cRep rows w l r g c)(hs:Q5 rows c=none):Qo [.ref w] g=.ok (.bl false) g:=by
 obtain⟨row,d,hr,hdd,hent,hat⟩:=T.at h.ok.st (h.ok.sg T.m0)
 rcases Qbd W hr hdd hent (by omega) (by omega) with⟨rfl,e⟩|⟨st',pl',L',R',g1,eg,e,W1,k1⟩
 ·exact e
 ·have hs':Q5 rows c=some ⟨st',pl',L',R'⟩:=by unfold Q5;rw[hat];show(goL d c.pl c.L c.R).map _=_;rw[eg];rfl
  rw[hs]at hs';cases hs'
noncomputable def trL(rows:List (List D))(K:Nat):List D:=(List.range (K+1)).map λi=>Ql (cfg rows i)
theorem Qbg(K:Nat):(trL rows K).length=K+1:=by unfold trL;rw[Um,List.length_range]
theorem Qj0(K:Nat):trL rows (K+1)=trL rows K++[Ql (cfg rows (K+1))]:=by
 unfold trL;rw[Wu (n:=K+1),UV];rfl
theorem QiE{K i:Nat}(h:i<=K):(trL rows K)[i]?=some (Ql (cfg rows i)):=by
 unfold trL
 rw[UK,List.getElem?_range (by omega)];rfl
theorem QcU{w a b q M:Nat}{most:Int}(T:Tb rows n m)(hqw:q≠w)(hqa:q≠a)(hqb:q≠b):∀(k j:Nat)(g:G),most.toNat=j+k->j+k<200->done rows j->cRep rows w a b g (cfg rows j)->g[q]?=some (.lst (trL rows j)) ->
  ∃g',QX (ZN (Qf (mOp2 pLe (mOp1 pLen (mVar 3)) (mVar 1))) (Qf (Zr 12 (Str.ofString "stepped") Qo (mVar 2) mNil))) J9 (k+1) [some (.ref M),some (.int most),some (.ref w),some (.ref q)] g=.nx [some (.ref M),some (.int most),some (.ref w),some (.ref q)] g'/\Keeps [w,a,b,q] g g'/\g'[q]?=some (.lst (trL rows (runC rows (j+k) c0).2))
 |0,j,g,hm,hz,hd,W,hq=>by
  have t1:Qf (mOp2 pLe (mOp1 pLen (mVar 3)) (mVar 1)) [some (.ref M),some (.int most),some (.ref w),some (.ref q)] g=.ok false g:=QB (Qn (x:=.int (trL rows j).length) (y:=.int most) (g1:=g) (g2:=g) (ZW (x:=.ref q) (g1:=g) rfl (by unfold pLen;dsimp only;rw[hq])) rfl (by
   show Res.ok (D.bl (decide (((trL rows j).length:Int)<=most))) g=_
   rw[Uq (by rw[Qbg];omega)]))
  refine⟨g,?_,.refl,?_⟩
  ·unfold QX ZN
   rw[t1]
   rfl
  ·rw[Nat.add_zero,show(runC rows j c0).2=j from hd];exact hq
 |k+1,j,g,hm,hz,hd,W,hq=>by
  have t1:Qf (mOp2 pLe (mOp1 pLen (mVar 3)) (mVar 1)) [some (.ref M),some (.int most),some (.ref w),some (.ref q)] g=.ok true g:=QB (Qn (x:=.int (trL rows j).length) (y:=.int most) (g1:=g) (g2:=g) (ZW (x:=.ref q) (g1:=g) rfl (by unfold pLen;dsimp only;rw[hq])) rfl (by
   show Res.ok (D.bl (decide (((trL rows j).length:Int)<=most))) g=_
   rw[Us (by rw[Qbg];omega)]))
  have hzj:=Qbf T j
  cases hs:Q5 rows (cfg rows j) with
  |none =>
   have e4:=QiD T (Ys T j) (by omega) W hs
   have t2:Qf (Zr 12 (Str.ofString "stepped") Qo (mVar 2) mNil) [some (.ref M),some (.int most),some (.ref w),some (.ref q)] g=.ok false g:=QB (by rw[Z4 rfl W.w' (Qae ..) rfl];exact e4)
   refine⟨g,?_,.refl,?_⟩
   ·unfold QX ZN
    rw[t1,Res.bind_ok,Uc rfl,t2]
   ·rw[JT (rows:=rows) j (j+(k+1)) c0 hs (by have:=JS (rows:=rows) j c0;omega),show(runC rows j c0).2=j from hd];exact hq
  |some c' =>
   obtain⟨d4,c4⟩:=Qiv hd hs
   obtain⟨g1,e1,W1,k1⟩:=Qeo T (Ys T j) (by omega) W hs
   rw[<-c4]at W1
   have hzj':=Qbf T (j+1)
   have hq1:g1[q]?=some (.lst (trL rows j)):=k1.at' _ _ (by simp;exact⟨hqw,hqa,hqb⟩) hq
   have t2:Qf (Zr 12 (Str.ofString "stepped") Qo (mVar 2) mNil) [some (.ref M),some (.int most),some (.ref w),some (.ref q)] g=.ok true g1:=QB (by rw[Z4 rfl W.w' (Qae ..) rfl];exact e1)
   have b1:J9 [some (.ref M),some (.int most),some (.ref w),some (.ref q)] g1=.nx [some (.ref M),some (.int most),some (.ref w),some (.ref q)] (g1.set q (.lst (trL rows (j+1)))):=by
    rw[Qj0]
    unfold J9
    exact Qcc rfl hq1 (by rw[Z4 rfl W1.w' (Qdr ..) rfl];exact Qds (by omega) W1) (JN (by rw[Qbg];omega))
   have W2:cRep rows w a b (g1.set q (.lst (trL rows (j+1)))) (cfg rows (j+1)):=⟨by rw[Ui hqw];exact W1.w',by rw[Ui hqa];exact W1.l',by rw[Ui hqb];exact W1.r',W1.wl,W1.wr,W1.lr⟩
   have hq2:(g1.set q (.lst (trL rows (j+1))))[q]?=some (.lst (trL rows (j+1))):=Q3 hq1
   have k2:Keeps [w,a,b,q] g (g1.set q (.lst (trL rows (j+1)))):=(k1.mono (by simp)).trans ((Keeps.set _ _).mono (by simp))
   generalize g1.set q (.lst (trL rows (j+1)))=g2 at b1 W2 hq2 k2
   obtain⟨g',e5,k5,h5⟩:=QcU (M:=M) (most:=most) T hqw hqa hqb k (j+1) g2 (by omega) (by omega) d4 W2 hq2
   refine⟨g',?_,k2.trans k5,by rw[show j+(k+1)=j+1+k by omega];exact h5⟩
   conv=>lhs;unfold QX
   have:ZN (Qf (mOp2 pLe (mOp1 pLen (mVar 3)) (mVar 1))) (Qf (Zr 12 (Str.ofString "stepped") Qo (mVar 2) mNil)) [some (.ref M),some (.int most),some (.ref w),some (.ref q)] g=.ok true g1:=by
    unfold ZN
    rw[t1,Res.bind_ok,Uc rfl,t2]
   rw[this]
   dsimp only
   rw[b1]
   exact e5
theorem Qgd{M:Nat}{most:Int}{g:G}(T:Tb rows n m)(hM:g[M]?=some (Qaj rows))(hz:most.toNat<200):
  ∃p g',Qba [.ref M,.int most] g=.ok (.ref p) g'/\Keeps [] g g'/\g.length<=p/\g'[p]?=some (.lst (trL rows (runC rows most.toNat c0).2)):=by
 obtain⟨w,a,b,g1,e1,W1,k1,h1,h2,h3⟩:=Qej (a:=Qb (mVar 0) (Qb (mLit (.tup [(.int 0),(.int 0),(.tup [])])) mNil)) (σ:=[some (.ref M),some (.int most),none,none]) (g0:=g) (g:=g) rfl hM
 have k2:Keeps [] g1 (g1++[.lst [Ql c0]]):=.push _
 have hq:(g1++[GO.lst [Ql c0]])[g1.length]?=some (.lst (trL rows 0)):=QD _
 have W2:cRep rows w a b (g1++[.lst [Ql c0]]) (cfg rows 0):=⟨k2.at' _ _ (by simp) W1.w',k2.at' _ _ (by simp) W1.l',k2.at' _ _ (by simp) W1.r',W1.wl,W1.wr,W1.lr⟩
 have hw:=Q0 W1.w'
 have hl:=Q0 W1.l'
 have hr:=Q0 W1.r'
 obtain⟨g',e3,k3,h4⟩:=QcU (M:=M) (most:=most) (q:=g1.length) T (by omega) (by omega) (by omega) most.toNat 0 _ (by omega) (by omega) rfl W2 hq
 rw[Wo]at h4
 have hgl:=k1.len
 refine⟨g1.length,g',QJ rfl ?_,⟨Ux hgl (Ux k2.len k3.len),λz o hz e=>?_⟩,hgl,h4⟩
 ·show Qe5 [some (.ref M),some (.int most),none,none] g=_
  unfold Qe5
  refine Qg [some (.ref M),some (.int most),some (.ref w),none] g1 (Qw e1) ?_
  refine Qg [some (.ref M),some (.int most),some (.ref w),some (.ref g1.length)] (g1++[.lst [Ql c0]]) (Qw ?_) ?_
  ·refine QaT (Qz (g1:=g1) (by rw[Z4 rfl W1.w' (Qdr ..) rfl];exact Qds (c:=c0) (by decide) W1) rfl) ?_
   unfold newL
   rw[Uc (by decide)]
  ·exact Qg _ g' (QbL e3 (by simp)) rfl
 ·have:=Q0 e
  exact k3.at' z o (by simp;omega) ((k1.trans k2).at' z o (by simp) e)
end
theorem least{P:Nat->Prop}(n:Nat):P n->∃f,f<=n/\P f/\∀i,i<f->¬P i:=by
 induction n using Nat.strongRecOn with
 |_ n ih =>
  intro h
  by_cases z:∃i,i<n/\P i
  ·obtain⟨i,h1,h2⟩:=z
   obtain⟨f,a,b,c⟩:=ih i h1 h2
   exact⟨f,by omega,b,c⟩
  ·exact⟨n,Ug _,h,λi hi hp=>z ⟨i,hi,hp⟩⟩
noncomputable def Found(P:Nat->Nat->Prop)(K:Nat)(k:Str)(x:D):Prop :=
 (∃f l:Nat,x=.tup [.str k,.int f,.int l]/\f<l/\l<=K/\P f l/\(∀i,i<f->¬P i l)/\∀l',l'<l->∀i,i<l'->¬P i l')\/(x=.non/\∀l,l<=K->∀i,i<l->¬P i l)
theorem Found.uniq{P:Nat->Nat->Prop}{K:Nat}{k:Str}{x y:D}(h1:Found P K k x)(h2:Found P K k y):x=y:=by
 rcases h1 with⟨f,l,rfl,a1,a2,a3,a4,a5⟩|⟨rfl,a⟩
 ·rcases h2 with⟨f',l',rfl,b1,b2,b3,b4,b5⟩|⟨rfl,b⟩
  ·have el:l=l':=by
    rcases Nat.lt_trichotomy l l' with z|z|z
    ·exact absurd a3 (b5 l z f a1)
    ·exact z
    ·exact absurd b3 (a5 l' z f' b1)
   subst el
   have ef:f=f':=by
    rcases Nat.lt_trichotomy f f' with z|z|z
    ·exact absurd a3 (b4 f z)
    ·exact z
    ·exact absurd b3 (a4 f' z)
   subst ef
   rfl
  ·exact absurd a3 (b l a2 f a1)
 ·rcases h2 with⟨f',l',rfl,b1,b2,b3,b4,b5⟩|⟨rfl,b⟩
  ·exact absurd b3 (a l' b2 f' b1)
  ·rfl
noncomputable def skC(c:Cf):Int×Int×List (List Int):=(c.st,c.pl,(Qk c).map λp=>[p.1,(p.2:Int)])
theorem QiF:∀M:Mk',QdY (mkD M)=some (M.map λp=>[p.1,(p.2:Int)])
 |[]=>rfl
 |p::r=>by
  show(match some [p.1,(p.2:Int)],QdY (mkD r) with
   |some x,some y=>some (x::y)
   |_,_=>none)=_
  rw[QiF r];rfl
theorem Qfi(c:Cf):skOf (Ql c)=some (skC c):=by
 show(QdY (mkD (Qk c))).map _=_
 rw[QiF];rfl
theorem QkM:∀{M N:Mk'},(M.map λp=>[p.1,(p.2:Int)])=(N.map λp=>[p.1,(p.2:Int)])->M=N
 |[],[],_=>rfl
 |[],_::_,h=>by cases h
 |_::_,[],h=>by cases h
 | (a,b)::M,(c,d)::N,h=>by
  rw[UH,UH]at h
  injection h with h1 h2
  injection h1 with h3 h4
  injection h4 with h5 _
  have h3:a=c:=h3
  have h5:b=d:=by exact_mod_cast h5
  rw[QkM h2,h3,h5]
theorem skC_eq{c c':Cf}:skC c=skC c'↔c.st=c'.st/\c.pl=c'.pl/\Qk c=Qk c':=by
 unfold skC
 constructor
 ·intro h
  injection h with h1 h2
  injection h2 with h2 h3
  exact⟨by omega,h2,QkM h3⟩
 ·rintro ⟨h1,h2,h3⟩;rw[h1,h2,h3]
section
variable{rows:List (List D)}{n m:Nat}
noncomputable def metL(rows:List (List D))(j:Nat):List ((Int×Int×List (List Int))×D):=(List.range j).map λi=>(skC (cfg rows i),.int i)
theorem Qdy(j:Nat):metL rows (j+1)=metL rows j++[(skC (cfg rows j),.int j)]:=by
 unfold metL;rw[Wu,UV];rfl
theorem Qdz{k:Int×Int×List (List Int)}:∀{j:Nat},(∀i,i<j->skC (cfg rows i)≠k)->nGet (metL rows j) k=none
 |0,_=>rfl
 |j+1,h=>by
  have ih:=Qdz (j:=j) λi hi=>h i (by omega)
  unfold nGet at ih ⊢
  rw[Qdy,List.find?_append]
  have e:(metL rows j).find? (λp=>decide (p.1=k))=none:=by
   cases hf:(metL rows j).find? (λp=>decide (p.1=k)) with
   |none=>rfl
   |some p=>rw[hf]at ih;cases ih
  rw[e,UA,Uq (h j (by omega))]
  rfl
theorem Qge{k:Int×Int×List (List Int)}{f:Nat}(hk:skC (cfg rows f)=k)(hf:∀i,i<f->skC (cfg rows i)≠k):∀{j:Nat},f<j->nGet (metL rows j) k=some (.int f)
 |0,h=>by omega
 |j+1,h=>by
  unfold nGet
  rw[Qdy,List.find?_append]
  by_cases z:f=j
  ·subst z
   have ih:=Qdz (rows:=rows) (j:=f) (k:=k) hf
   unfold nGet at ih
   have e:(metL rows f).find? (λp=>decide (p.1=k))=none:=by
    cases hf:(metL rows f).find? (λp=>decide (p.1=k)) with
    |none=>rfl
    |some p=>rw[hf]at ih;cases ih
   rw[e,UA,Us hk]
   rfl
  ·have ih:=Qge hk hf (j:=j) (by omega)
   unfold nGet at ih
   cases hff:(metL rows j).find? (λp=>decide (p.1=k)) with
   |none=>rw[hff]at ih;cases ih
   |some p=>rw[hff]at ih;exact ih
theorem QlX(j:Nat):(metL rows j).length=j:=by unfold metL;rw[Um,List.length_range]
theorem same_sk{f l:Nat}:Qak rows f l↔skC (cfg rows f)=skC (cfg rows l):=skC_eq.symm
noncomputable def srcN(p K:Nat):Src:=⟨λg i=>(match QH g (.ref p) with
  |some (_,es)=>(match es[i]? with
   |some x=>some (some (.tup [.int i,x]))
   |none=>some none)
  |none=>none),K⟩
theorem QlY{p K:Nat}{ds:List D}{g:G}(h:g[p]?=some (.lst ds))(hl:ds.length=K):Qdf (.ref p) g=.ok (srcN p K) g:=by
 unfold Qdf
 rw[Qcd h]
 dsimp only
 rw[hl]
 rfl
theorem QlZ{p K i:Nat}{ds:List D}{x:D}{g:G}(h:g[p]?=some (.lst ds))(hx:ds[i]?=some x):(srcN p K).at' g i=some (some (.tup [.int i,x])):=by
 show(match QH g (.ref p) with
  |some (_,es)=>(match es[i]? with
   |some x=>some (some (D.tup [.int i,x]))
   |none=>some none)
  |none=>none)=_
 rw[Qcd h]
 dsimp only
 rw[hx]
theorem Qj1{p K i:Nat}{ds:List D}{g:G}(h:g[p]?=some (.lst ds))(hx:ds.length<=i):(srcN p K).at' g i=some none:=by
 show(match QH g (.ref p) with
  |some (_,es)=>(match es[i]? with
   |some x=>some (some (D.tup [.int i,x]))
   |none=>some none)
  |none=>none)=_
 rw[Qcd h]
 dsimp only
 rw[TJ hx]
theorem Ql0{d:Nat}{ks:List ((Int×Int×List (List Int))×D)}{c:Cf}{v:D}{o k w:ME}{σ:S3}{g:G}(h1:w σ g=.ok v g)(h2:o σ g=.ok (.ref d) g)(h3:k σ g=.ok (Ql c) g)(hd:g[d]?=some (.dcn ks))(hz:ks.length<=1000)(hn:nGet ks (skC c)=none):Qeb o k w σ g=.nx σ (g.set d (.dcn (ks++[(skC c,v)]))):=by
 unfold Qeb
 rw[h1]
 dsimp only
 rw[h2]
 dsimp only
 rw[h3]
 dsimp only
 rw[hd,Qfi]
 dsimp only
 rw[Uc ⟨JN hz,hn⟩]
theorem QiG{M d i:Nat}{most:Int}{g3:G}(i3:g3[d]?=some (.dcn (metL rows i)))(hi:i<=1000):
  (∃f,f<i/\Qak rows f i/\(∀j,j<f->¬Qak rows j i)/\Zu [some (.ref M),some (.int most),some (.ref d),some (.int i),some (Ql (cfg rows i))] g3=.rt (.tup [.str "same",.int f,.int i]) g3) \/
  ((∀f,f<i->¬Qak rows f i)/\Zu [some (.ref M),some (.int most),some (.ref d),some (.int i),some (Ql (cfg rows i))] g3=.nx [some (.ref M),some (.int most),some (.ref d),some (.int i),some (Ql (cfg rows i))] (g3.set d (.dcn (metL rows (i+1))))):=by
 have t1:Qf (mOp2 pInN (mVar 4) (mVar 2)) [some (.ref M),some (.int most),some (.ref d),some (.int i),some (Ql (cfg rows i))] g3=.ok (nGet (metL rows i) (skC (cfg rows i))).isSome g3:=QB (Qn (x:=Ql (cfg rows i)) (y:=.ref d) (g1:=g3) (g2:=g3) rfl rfl (by unfold pInN;dsimp only;rw[i3,Qfi]))
 by_cases hx:∃f,f<i/\Qak rows f i
 ·left
  obtain⟨f0,h1,h2⟩:=hx
  obtain⟨f,q1,q2,q3⟩:=least (P:=λf=>Qak rows f i) f0 h2
  have hg:=Qge (rows:=rows) (same_sk.mp q2) (λj hj h=>q3 j hj (same_sk.mpr h)) (show f<i by omega)
  refine⟨f,by omega,q2,q3,?_⟩
  rw[hg]at t1
  unfold Zu
  refine ZL (ift g3 t1 (ZE ?_))
  exact QaT (Qz (g1:=g3) rfl (Qz (g1:=g3) (Qn (x:=.ref d) (y:=Ql (cfg rows i)) (g1:=g3) (g2:=g3) rfl rfl (by unfold pIxN;dsimp only;rw[i3,Qfi];dsimp only;rw[hg])) (Qz (g1:=g3) rfl rfl))) rfl
 ·right
  have hg:=Qdz (rows:=rows) (j:=i) (k:=skC (cfg rows i)) λf hf h=>hx ⟨f,hf,same_sk.mpr h⟩
  refine⟨λf hf h=>hx ⟨f,hf,h⟩,?_⟩
  rw[hg]at t1
  unfold Zu
  refine Qg _ g3 (iff' g3 t1 rfl) ?_
  rw[Qdy]
  exact Ql0 rfl rfl rfl i3 (by rw[QlX];omega) hg
theorem QgQ{M:Nat}{most:Int}{g:G}(T:Tb rows n m)(hM:g[M]?=some (Qaj rows))(hz:most.toNat<200):
  ∃x g',QaN [.ref M,.int most] g=.ok x g'/\Keeps [] g g'/\Found (Qak rows) (runC rows most.toNat c0).2 (Str.ofString "same") x:=by
 have hK:(runC rows most.toNat c0).2<=most.toNat:=JS _ _
 have k1:Keeps [] g (g++[.dcn []]):=.push _
 have hd1:(g++[GO.dcn []])[g.length]?=some (.dcn (metL rows 0)):=QD _
 obtain⟨p,g2,e2,k2,hp,hp2⟩:=Qgd (most:=most) T (k1.at' _ _ (by simp) hM) hz
 have hd2:=k2.at' _ _ (by simp) hd1
 have hpd:p≠g.length:=by simp at hp;omega
 generalize (runC rows most.toNat c0).2=K at hK hp2 ⊢
 have hit:Qa6 (Qr Qba (Qb (mVar 0) (Qb (mVar 1) mNil))) [some (.ref M),some (.int most),some (.ref g.length),none,none] (g++[.dcn []])=.ok (srcN p (K+1)) g2:=by
  unfold Qa6
  rw[Qv (ds:=[.ref M,.int most]) (g':=g++[.dcn []]) rfl,e2,Res.bind_ok]
  exact QlY hp2 (Qbg K)
 have L:=Ye (src:=srcN p (K+1)) (t:=Yo [gSet 3,gSet 4]) (body:=Zu) (n:=K+1)
  (λi σ g3=>(∃y3 y4,σ=[some (.ref M),some (.int most),some (.ref g.length),y3,y4])/\Keeps [g.length] g2 g3/\g3[g.length]?=some (.dcn (metL rows i))/\∀l,l<i->∀f,f<l->¬Qak rows f l)
  (λo=>∃x g3,o=.rt x g3/\Keeps [g.length] g2 g3/\Found (Qak rows) K (Str.ofString "same") x) (λi σ g3 hi hQ=>by
   obtain⟨⟨y3,y4,i1⟩,i2,i3,i4⟩:=hQ
   subst i1
   have hp3:=i2.at' _ _ (by simp;exact hpd) hp2
   refine⟨.tup [.int i,Ql (cfg rows i)],[some (.ref M),some (.int most),some (.ref g.length),some (.int i),some (Ql (cfg rows i))],?_,rfl,?_⟩
   ·exact QlZ hp3 (QiE (by omega))
   rcases QiG (M:=M) (most:=most) i3 (by omega) with⟨f,q0,q2,q3,eb⟩|⟨hx,eb⟩
   ·exact .inr ⟨by rw[eb];trivial,_,g3,eb,i2,.inl ⟨f,i,rfl,q0,by omega,q2,q3,i4⟩⟩
   ·refine .inl ⟨_,_,.inl eb,⟨_,_,rfl⟩,i2.trans (.set _ _),Q3 i3,λl hl f hf h=>?_⟩
    by_cases z:l=i
    ·subst z;exact hx f hf h
    ·exact i4 l (by omega) f hf h) (λσ g3 hQ=>by
   obtain⟨_,i2,_⟩:=hQ
   exact Qj1 (i2.at' _ _ (by simp;exact hpd) hp2) (by rw[Qbg];exact Ug _)) (K+2) 0 [some (.ref M),some (.int most),some (.ref g.length),none,none] g2 (by omega) (by omega) ⟨⟨_,_,rfl⟩,.refl,hd2,λl hl=>by omega⟩
 have fin:∀{g3:G},Keeps [g.length] g2 g3->Keeps [] g g3:=λ{g3} k=>⟨Ux (k1.trans k2).len k.len,λz o _ e=>k.at' z o (by have:=Q0 e;simp;omega) ((k1.trans k2).at' z o (by simp) e)⟩
 have start:∀{x:D}{g':G},mSeq (mFor (Qa6 (Qr Qba (Qb (mVar 0) (Qb (mVar 1) mNil)))) (Yo [(gSet 3),(gSet 4)]) Zu) (mRet (mLit .non)) [some (.ref M),some (.int most),some (.ref g.length),none,none] (g++[.dcn []])=.rt x g'->QaN [.ref M,.int most] g=.ok x g':=λh=>by
  refine QJ rfl ?_
  show Qb8 [some (.ref M),some (.int most),none,none,none] g=_
  unfold Qb8
  refine Qg [some (.ref M),some (.int most),some (.ref g.length),none,none] (g++[.dcn []]) (Qw rfl) ?_
  exact h
 rcases L with⟨σ',g3,e3,_,i2,_,i4⟩|⟨_,x,g3,e3,i2,i4⟩
 ·exact⟨.non,g3,start (Qg _ g3 ((YJ hit).trans e3) rfl),fin i2,.inr ⟨rfl,λl hl f hf=>i4 l (by omega) f hf⟩⟩
 ·exact⟨x,g3,start (ZL ((YJ hit).trans e3)),fin i2,i4⟩
end
section
variable{rows:List (List D)}{n m:Nat}
theorem QiH(f:Nat):∀j,(if (cfg rows f).pl<lo rows (f+1) j then (cfg rows f).pl else lo rows (f+1) j)=lo rows f (j+1)
 |0=>by
  show(if (cfg rows f).pl<(cfg rows (f+1)).pl then (cfg rows f).pl else (cfg rows (f+1)).pl)=if (cfg rows (f+1)).pl<(cfg rows f).pl then (cfg rows (f+1)).pl else (cfg rows f).pl
  split <;> split <;> omega
 |j+1=>by
  have ih:=QiH f j
  show(if (cfg rows f).pl<(if (cfg rows (f+1+(j+1))).pl<lo rows (f+1) j then (cfg rows (f+1+(j+1))).pl else lo rows (f+1) j) then (cfg rows f).pl else (if (cfg rows (f+1+(j+1))).pl<lo rows (f+1) j then (cfg rows (f+1+(j+1))).pl else lo rows (f+1) j))=if (cfg rows (f+(j+1+1))).pl<lo rows f (j+1) then (cfg rows (f+(j+1+1))).pl else lo rows f (j+1)
  rw[<-ih,show f+1+(j+1)=f+(j+1+1) by omega]
  generalize (cfg rows (f+(j+1+1))).pl=a
  generalize lo rows (f+1) j=b
  generalize (cfg rows f).pl=c
  (repeat' split) <;> omega
theorem QiI(f:Nat):∀j,(if hi rows (f+1) j<(cfg rows f).pl then (cfg rows f).pl else hi rows (f+1) j)=hi rows f (j+1)
 |0=>by
  show(if (cfg rows (f+1)).pl<(cfg rows f).pl then (cfg rows f).pl else (cfg rows (f+1)).pl)=if (cfg rows f).pl<(cfg rows (f+1)).pl then (cfg rows (f+1)).pl else (cfg rows f).pl
  split <;> split <;> omega
 |j+1=>by
  have ih:=QiI f j
  show(if (if hi rows (f+1) j<(cfg rows (f+1+(j+1))).pl then (cfg rows (f+1+(j+1))).pl else hi rows (f+1) j)<(cfg rows f).pl then (cfg rows f).pl else (if hi rows (f+1) j<(cfg rows (f+1+(j+1))).pl then (cfg rows (f+1+(j+1))).pl else hi rows (f+1) j))=if hi rows f (j+1)<(cfg rows (f+(j+1+1))).pl then (cfg rows (f+(j+1+1))).pl else hi rows f (j+1)
  rw[<-ih,show f+1+(j+1)=f+(j+1+1) by omega]
  generalize (cfg rows (f+(j+1+1))).pl=a
  generalize hi rows (f+1) j=b
  generalize (cfg rows f).pl=c
  (repeat' split) <;> omega
def Qj2(P:Nat->Prop)(a b:Nat)(x:D):Prop:=(∃f:Nat,x=.int f/\a<=f/\f<b/\P f/\∀i,a<=i->i<f->¬P i)\/(x=.non/\∀i,a<=i->i<b->¬P i)
theorem Ql1{p K l i k:Nat}{y:D}{x6 x7:Option D}{g:G}(T:Tb rows n m)(hp:g[p]?=some (.lst (trL rows K)))(hl:l<=K)(hK:K<200)(hi':i+1+k=l)(hy:Qj2 (λf=>Yn rows f l) (i+1) l y):
  ∃y' g',QZ [some (.ref p),some (.int l),some (Ql (cfg rows l)),some (.int (lo rows (i+1) k)),some (.int (hi rows (i+1) k)),some y,some (.int i),x7] g=.nx [some (.ref p),some (.int l),some (Ql (cfg rows l)),some (.int (lo rows i (k+1))),some (.int (hi rows i (k+1))),some y',some (.int i),some (Ql (cfg rows i))] g'/\Keeps [] g g'/\Qj2 (λf=>Yn rows f l) i l y':=by
 have ek:l-i=k+1:=by omega
 have e1:mAsg (gSet 7) (mOp2 pIx (mVar 0) (mVar 6)) [some (.ref p),some (.int l),some (Ql (cfg rows l)),some (.int (lo rows (i+1) k)),some (.int (hi rows (i+1) k)),some y,some (.int i),x7] g=.nx [some (.ref p),some (.int l),some (Ql (cfg rows l)),some (.int (lo rows (i+1) k)),some (.int (hi rows (i+1) k)),some y,some (.int i),some (Ql (cfg rows i))] g :=
  Qw (Qn (x:=.ref p) (y:=.int i) (g1:=g) (g2:=g) rfl rfl (JQ hp (QiE (by omega))))
 have e2:mAsg (gSet 3) (mOp2 Qdg (mVar 3) (mOp2 pIx (mVar 7) (mLit (.int 1)))) [some (.ref p),some (.int l),some (Ql (cfg rows l)),some (.int (lo rows (i+1) k)),some (.int (hi rows (i+1) k)),some y,some (.int i),some (Ql (cfg rows i))] g=.nx [some (.ref p),some (.int l),some (Ql (cfg rows l)),some (.int (lo rows i (k+1))),some (.int (hi rows (i+1) k)),some y,some (.int i),some (Ql (cfg rows i))] g:=by
  rw[<-QiH]
  exact Qw (Qn (x:=.int (lo rows (i+1) k)) (y:=.int (cfg rows i).pl) (g1:=g) (g2:=g) rfl rfl rfl)
 have e3:mAsg (gSet 4) (mOp2 Qh2 (mVar 4) (mOp2 pIx (mVar 7) (mLit (.int 1)))) [some (.ref p),some (.int l),some (Ql (cfg rows l)),some (.int (lo rows i (k+1))),some (.int (hi rows (i+1) k)),some y,some (.int i),some (Ql (cfg rows i))] g=.nx [some (.ref p),some (.int l),some (Ql (cfg rows l)),some (.int (lo rows i (k+1))),some (.int (hi rows i (k+1))),some y,some (.int i),some (Ql (cfg rows i))] g:=by
  rw[<-QiI]
  exact Qw (Qn (x:=.int (hi rows (i+1) k)) (y:=.int (cfg rows i).pl) (g1:=g) (g2:=g) rfl rfl rfl)
 obtain⟨b,g2,e4,k4,hb⟩:=QaR (g1:=g) (f:=i) (l:=l) (low:=(cfg rows i).pl-lo rows i (k+1)) (high:=hi rows i (k+1) - (cfg rows i).pl) T (by omega) (by omega) (by rw[ek]) (by rw[ek])
 have t4:Qf (Qr ZV (Qb (mVar 7) (Qb (mVar 2) (Qb (mOp2 pSub (mOp2 pIx (mVar 7) (mLit (.int 1))) (mVar 3)) (Qb (mOp2 pSub (mVar 4) (mOp2 pIx (mVar 7) (mLit (.int 1)))) mNil))))) [some (.ref p),some (.int l),some (Ql (cfg rows l)),some (.int (lo rows i (k+1))),some (.int (hi rows i (k+1))),some y,some (.int i),some (Ql (cfg rows i))] g=.ok b g2:=QB (by
  rw[Qv (ds:=[Ql (cfg rows i),Ql (cfg rows l),.int ((cfg rows i).pl-lo rows i (k+1)),.int (hi rows i (k+1) - (cfg rows i).pl)]) (g':=g) rfl]
  exact e4)
 have start:∀{y':D},mIf (Qf (Qr ZV (Qb (mVar 7) (Qb (mVar 2) (Qb (mOp2 pSub (mOp2 pIx (mVar 7) (mLit (.int 1))) (mVar 3)) (Qb (mOp2 pSub (mVar 4) (mOp2 pIx (mVar 7) (mLit (.int 1)))) mNil)))))) (mAsg (gSet 5) (mVar 6)) QN [some (.ref p),some (.int l),some (Ql (cfg rows l)),some (.int (lo rows i (k+1))),some (.int (hi rows i (k+1))),some y,some (.int i),some (Ql (cfg rows i))] g=.nx [some (.ref p),some (.int l),some (Ql (cfg rows l)),some (.int (lo rows i (k+1))),some (.int (hi rows i (k+1))),some y',some (.int i),some (Ql (cfg rows i))] g2->QZ [some (.ref p),some (.int l),some (Ql (cfg rows l)),some (.int (lo rows (i+1) k)),some (.int (hi rows (i+1) k)),some y,some (.int i),x7] g=.nx [some (.ref p),some (.int l),some (Ql (cfg rows l)),some (.int (lo rows i (k+1))),some (.int (hi rows i (k+1))),some y',some (.int i),some (Ql (cfg rows i))] g2:=λh=>by
  unfold QZ
  refine Qg _ g e1 ?_
  refine Qg _ g e2 ?_
  refine Qg _ g e3 ?_
  exact h
 cases b with
 |true =>
  refine⟨.int i,g2,start (ift g2 t4 (Qw rfl)),k4,.inl ⟨i,rfl,Ug _,by omega,hb.mp rfl,λj h1 h2=>by omega⟩⟩
 |false =>
  have hn:¬Yn rows i l:=λh=>by have:=hb.mpr h;cases this
  refine⟨y,g2,start (iff' g2 t4 rfl),k4,?_⟩
  rcases hy with⟨f,rfl,a1,a2,a3,a4⟩|⟨rfl,a⟩
  ·exact .inl ⟨f,rfl,by omega,a2,a3,λj h1 h2=>by
    by_cases z:j=i
    ·subst z;exact hn
    ·exact a4 j (by omega) h2⟩
  ·exact .inr ⟨rfl,λj h1 h2=>by
    by_cases z:j=i
    ·subst z;exact hn
    ·exact a j (by omega) h2⟩
theorem QbB{p K l:Nat}{g:G}(T:Tb rows n m)(hp:g[p]?=some (.lst (trL rows K)))(h1:1<=l)(hl:l<=K)(hK:K<200):
  ∃y g',Z3 [.ref p,.int l] g=.ok y g'/\Keeps [] g g'/\Qj2 (λf=>Yn rows f l) 0 l y:=by
 have hr:inR (l:Int):=QaP (by omega)
 have hit:JG (mOp2 pSub (mVar 1) (mLit (.int 1))) (mOp1 pNeg (mLit (.int 1))) [some (.ref p),some (.int l),some (Ql (cfg rows l)),some (.int (cfg rows l).pl),some (.int (cfg rows l).pl),some .non,none,none] g=.ok ⟨λ_ k=>some (if (k:Int)<(l:Int) - 1 - (-1) then some (.int ((l:Int) - 1-k)) else none),((l:Int) - 1 - (-1)).toNat⟩ g:=by
  unfold JG
  rw[show mOp2 pSub (mVar 1) (mLit (.int 1)) [some (.ref p),some (.int l),some (Ql (cfg rows l)),some (.int (cfg rows l).pl),some (.int (cfg rows l).pl),some .non,none,none] g=.ok (.int ((l:Int) - 1)) g from rfl,Res.bind_ok,show mOp1 pNeg (mLit (.int 1)) [some (.ref p),some (.int l),some (Ql (cfg rows l)),some (.int (cfg rows l).pl),some (.int (cfg rows l).pl),some .non,none,none] g=.ok (.int (-1)) g from rfl,Res.bind_ok]
  dsimp only
  rw[Uc ⟨by unfold inR at hr ⊢;omega,by unfold inR;omega⟩]
 have ht:((l:Int) - 1 - (-1)).toNat=l:=by omega
 rw[ht]at hit
 obtain⟨σ',g3,e3,⟨y,x6,x7,i1,i2⟩,k3⟩:=QlC (src:=⟨λ_ k=>some (if (k:Int)<(l:Int) - 1 - (-1) then some (.int ((l:Int) - 1-k)) else none),l⟩) (t:=gSet 6) (body:=QZ) (n:=l) (σ:=[some (.ref p),some (.int l),some (Ql (cfg rows l)),some (.int (cfg rows l).pl),some (.int (cfg rows l).pl),some .non,none,none]) (g:=g) rfl
  (λk σ g3=>(∃y x6 x7,σ=[some (.ref p),some (.int l),some (Ql (cfg rows l)),some (.int (lo rows (l-k) k)),some (.int (hi rows (l-k) k)),some y,x6,x7]/\Qj2 (λf=>Yn rows f l) (l-k) l y)/\Keeps [] g g3) ⟨⟨.non,none,none,rfl,.inr ⟨rfl,λi h1 h2=>by omega⟩⟩,.refl⟩ (λk σ g3 hk hQ=>by
   obtain⟨⟨y,x6,x7,i1,i2⟩,k3⟩:=hQ
   subst i1
   have ei:l-k=(l - (k+1))+1:=by omega
   rw[ei]at i2
   obtain⟨y',g4,e4,k4,h4⟩:=Ql1 (x7:=x7) (k:=k) (i:=l - (k+1)) (x6:=none) T (k3.at' _ _ (by simp) hp) hl hK (by omega) i2
   refine⟨.int ((l - (k+1):Nat):Int),[some (.ref p),some (.int l),some (Ql (cfg rows l)),some (.int (lo rows (l-k) k)),some (.int (hi rows (l-k) k)),some y,some (.int ((l - (k+1):Nat):Int)),x7],[some (.ref p),some (.int l),some (Ql (cfg rows l)),some (.int (lo rows (l - (k+1)) (k+1))),some (.int (hi rows (l - (k+1)) (k+1))),some y',some (.int ((l - (k+1):Nat):Int)),some (Ql (cfg rows (l - (k+1))))],g4,?_,rfl,?_,⟨y',_,_,rfl,h4⟩,k3.trans k4⟩
   ·dsimp only
    rw[Uc (by omega)]
    congr 3
    omega
   ·rw[ei];exact e4) (λσ g3 hQ=>by
   dsimp only
   rw[Uh (by omega)])
 rw[Nat.sub_self]at i2
 rw[i1]at e3
 refine⟨y,g3,QJ rfl ?_,k3,i2⟩
 show YG [some (.ref p),some (.int l),none,none,none,none,none,none] g=_
 unfold YG
 refine Qg [some (.ref p),some (.int l),some (Ql (cfg rows l)),none,none,none,none,none] g (Qw (Qn (x:=.ref p) (y:=.int l) (g1:=g) (g2:=g) rfl rfl (JQ hp (QiE hl)))) ?_
 refine Qg [some (.ref p),some (.int l),some (Ql (cfg rows l)),some (.int (cfg rows l).pl),none,none,none,none] g (Qw rfl) ?_
 refine Qg [some (.ref p),some (.int l),some (Ql (cfg rows l)),some (.int (cfg rows l).pl),some (.int (cfg rows l).pl),none,none,none] g (Qw rfl) ?_
 refine Qg [some (.ref p),some (.int l),some (Ql (cfg rows l)),some (.int (cfg rows l).pl),some (.int (cfg rows l).pl),some .non,none,none] g (Qw rfl) ?_
 refine Qg _ g3 ((YJ hit).trans e3) (ZE rfl)
theorem QdA{M:Nat}{most:Int}{g:G}(T:Tb rows n m)(hM:g[M]?=some (Qaj rows))(hz:most.toNat<200):
  ∃x g',YU [.ref M,.int most] g=.ok x g'/\Keeps [] g g'/\Found (Yn rows) (runC rows most.toNat c0).2 (Str.ofString "shifted") x:=by
 have hK:(runC rows most.toNat c0).2<=most.toNat:=JS _ _
 obtain⟨p,g2,e2,k2,hp,hp2⟩:=Qgd (most:=most) T hM hz
 generalize (runC rows most.toNat c0).2=K at hK hp2 ⊢
 have L:=Ye (src:=QI 1 K) (t:=gSet 3) (body:=QW) (n:=K)
  (λi σ g3=>(∃y3 y4,σ=[some (.ref M),some (.int most),some (.ref p),y3,y4])/\Keeps [] g2 g3/\∀l,l<=i->∀f,f<l->¬Yn rows f l)
  (λo=>∃x g3,o=.rt x g3/\Keeps [] g2 g3/\Found (Yn rows) K (Str.ofString "shifted") x) (λi σ g3 hi' hQ=>by
   obtain⟨⟨y3,y4,i1⟩,i2,i4⟩:=hQ
   subst i1
   obtain⟨y,g4,e4,k4,h4⟩:=QbB (l:=i+1) T (i2.at' _ _ (by simp) hp2) (by omega) (by omega) (by omega)
   refine⟨.int ((i+1:Nat):Int),[some (.ref M),some (.int most),some (.ref p),some (.int ((i+1:Nat):Int)),y4],by simp[QI,hi'];omega,rfl,?_⟩
   have a1:mAsg (gSet 4) (Qr Z3 (Qb (mVar 2) (Qb (mVar 3) mNil))) [some (.ref M),some (.int most),some (.ref p),some (.int ((i+1:Nat):Int)),y4] g3=.nx [some (.ref M),some (.int most),some (.ref p),some (.int ((i+1:Nat):Int)),some y] g4:=Qw (by rw[Qv (ds:=[.ref p,.int ((i+1:Nat):Int)]) (g':=g3) rfl];exact e4)
   rcases h4 with⟨f,rfl,b1,b2,b3,b4⟩|⟨rfl,b⟩
   ·have eb:QW [some (.ref M),some (.int most),some (.ref p),some (.int ((i+1:Nat):Int)),y4] g3=.rt (.tup [.str "shifted",.int f,.int ((i+1:Nat):Int)]) g4:=by
     unfold QW
     refine Qg _ g4 a1 ?_
     exact ift g4 rfl rfl
    exact .inr ⟨by rw[eb];trivial,_,g4,eb,i2.trans k4,.inl ⟨f,i+1,rfl,b2,by omega,b3,λj hj=>b4 j (TX _) hj,λl' hl'=>i4 l' (by omega)⟩⟩
   ·have eb:QW [some (.ref M),some (.int most),some (.ref p),some (.int ((i+1:Nat):Int)),y4] g3=.nx [some (.ref M),some (.int most),some (.ref p),some (.int ((i+1:Nat):Int)),some .non] g4:=by
     unfold QW
     refine Qg _ g4 a1 ?_
     exact iff' g4 rfl rfl
    refine .inl ⟨_,g4,.inl eb,⟨_,_,rfl⟩,i2.trans k4,λl hl f hf h=>?_⟩
    by_cases z:l=i+1
    ·subst z;exact b f (TX _) hf h
    ·exact i4 l (by omega) f hf h) (λσ g3 hQ=>by simp[QI]) (K+1) 0 [some (.ref M),some (.int most),some (.ref p),none,none] g2 (by omega) (by omega) ⟨⟨_,_,rfl⟩,.refl,λl hl f hf=>by omega⟩
 have hit:Q7 (mLit (.int 1)) (mOp1 pLen (mVar 2)) [some (.ref M),some (.int most),some (.ref p),none,none] g2=.ok (QI 1 K) g2:=by
  have e:mOp1 pLen (mVar 2) [some (.ref M),some (.int most),some (.ref p),none,none] g2=.ok (.int ((K+1:Nat):Int)) g2:=ZW (x:=.ref p) (g1:=g2) rfl (by unfold pLen;dsimp only;rw[hp2];dsimp only;rw[Qbg])
  have r1:inR (1:Int):=by unfold inR;omega
  have r2:inR ((K+1:Nat):Int):=QaP (by omega)
  unfold Q7
  rw[show mLit (.int 1) [some (D.ref M),some (D.int most),some (D.ref p),none,none] g2=Res.ok (D.int 1) g2 from rfl,Res.bind_ok,e,Res.bind_ok]
  dsimp only
  rw[Uc ⟨r1,r2⟩,show(((K+1:Nat):Int) - 1).toNat=K by omega]
 have start:∀{x:D}{g':G},mSeq (mFor (Q7 (mLit (.int 1)) (mOp1 pLen (mVar 2))) (gSet 3) QW) (mRet (mLit .non)) [some (.ref M),some (.int most),some (.ref p),none,none] g2=.rt x g'->YU [.ref M,.int most] g=.ok x g':=λh=>by
  refine QJ rfl ?_
  show JJ [some (.ref M),some (.int most),none,none,none] g=_
  unfold JJ
  refine Qg [some (.ref M),some (.int most),some (.ref p),none,none] g2 (Qw (by rw[Qv (ds:=[.ref M,.int most]) (g':=g) rfl];exact e2)) ?_
  exact h
 rcases L with⟨σ',g3,e3,_,i2,i4⟩|⟨_,x,g3,e3,i2,i4⟩
 ·exact⟨.non,g3,start (Qg _ g3 ((YJ hit).trans e3) rfl),k2.trans i2,.inr ⟨rfl,λl hl f hf=>i4 l (by omega) f hf⟩⟩
 ·exact⟨x,g3,start (ZL ((YJ hit).trans e3)),k2.trans i2,i4⟩
end
structure Ctx(rows:List (List D))(n m M r N:Nat)(ds:List D)(g:G):Prop where
 tb:Tb rows n m
 mach:g[M]?=some (Qaj rows)
 row:g[r]?=some (.lst ds)
 len:ds.length=N+1
 all:∀i,i<=N->∃y,ds[i]?=some y/\ShR g (cfg rows i) y 32
 run:(runC rows 32 c0).2=N
theorem Qj3{g:G}{r:Nat}{o:GO}(h:g[r]?=some o):g.set r o=g:=by
 apply List.ext_getElem?
 intro i
 rw[List.getElem?_set]
 split
 ·next e=>subst e;rw[h];simp[Q0 h]
 ·rfl
theorem Qj4{g:G}{r:Nat}{o u x:GO}(h:g[r]?=some o):((g.set r u)++[x]).set r o=g++[x]:=by
 rw[List.set_append_left _ _ (by rw[UR];exact Q0 h),RH,Qj3 h]
section
variable{rows:List (List D)}{n m M r N:Nat}{ds:List D}{g:G}
theorem Ctx.mono{g1:G}(X:Ctx rows n m M r N ds g)(k:Keeps [] g g1):Ctx rows n m M r N ds g1 :=
 ⟨X.tb,k.at' _ _ (by simp) X.mach,k.at' _ _ (by simp) X.row,X.len,λi hi=>let ⟨y,h1,h2⟩:=X.all i hi;⟨y,h1,h2.mono k (by simp)⟩,X.run⟩
theorem DOk.klen{ks:List (DK×D)}{c:Cf}{is:List Int}(h:DOk ks (Qk c))(hg:Good c)(hk:Yg ks=some is):is.length=(Qk c).length:=by
 have:=(Yw is).length_eq
 rw[h.sorted hg hk,Um]at this
 exact this.symm
theorem Qj5{i c d:Nat}{δ:Int}{ks:List (DK×D)}{is:List Int}{σ:S3}{g:G}(h1:mOp2 pIx (mVar i) (mLit (.int 2)) σ g=.ok (.ref d) g)(hd:g[d]?=some (.dct ks))(hk:Yg ks=some is)(hz:is.length<=1000)(hc:capt 1 [c] σ=[none,some (.int δ)]):
  Qbr i 2 1 [c] (gSet 0) Yf (mOp2 pSub (mVar 0) (mVar 1)) σ g=.ok (.ref g.length) (g++[.lst (is.map λx=>.int (x-δ))]):=by
 have hit:Qau (mOp2 pIx (mVar i) (mLit (.int 2))) σ g=.ok ⟨λ_ i=>some (is.map D.int)[i]?,is.length⟩ (g.set d (.dfz ks)):=by
  unfold Qau
  rw[h1,Res.bind_ok]
  dsimp only
  rw[hd]
  dsimp only
  rw[hk]
 obtain⟨xs,σ',g2,e1,e2,e3,_⟩:=Zy (src:=⟨λ_ i=>some (is.map D.int)[i]?,is.length⟩) (t:=gSet 0) (c:=Yf) (e:=mOp2 pSub (mVar 0) (mVar 1)) (n:=is.length)
  (λj σ' g2 acc=>acc=(is.take j).map (λx=>D.int (x-δ))/\g2=g.set d (.dfz ks)/\∃u,σ'=[u,some (.int δ)]) (λj σ' g2 acc hj hQ=>by
   obtain⟨q1,q2,u,q3⟩:=hQ
   subst q3
   refine⟨.int is[j],[some (.int is[j]),some (.int δ)],g2,by simp[hj],rfl,.inl ⟨.int (is[j] - δ),g2,rfl,rfl,?_,q2,_,rfl⟩⟩
   rw[q1,U1 hj,UV];rfl) (λσ g2 acc _=>by simp) (is.length+1) 0 [none,some (.int δ)] (g.set d (.dfz ks)) [] (by omega) (by omega) ⟨rfl,rfl,none,rfl⟩
 rw[TW]at e2
 subst e2 e3
 have hcm:=JP (n:=1) (cap:=[c]) hit (U3 (JN hz)) hc e1
 unfold Qbr
 rw[h1]
 dsimp only
 rw[hcm]
 dsimp only
 have hl:=Q0 hd
 rw[hd,Uy (by rw[UR];exact hl),Q3 hd]
 dsimp only
 rw[Qj4 hd,UR]
noncomputable def JU(rows:List (List D))(f l:Nat)(x:Int):Bool:=if 0<((cfg rows l).pl - (cfg rows f).pl) then decide (lo rows f (l-f)<=x) else decide (x<=hi rows f (l-f))
def QaU(rows:List (List D))(f l:Nat)(x:Int):Prop:=JU rows f l x=true->sg (Qk (cfg rows f)) x=sg (Qk (cfg rows l)) (x+((cfg rows l).pl - (cfg rows f).pl))
theorem Qfj{f l:Nat}(T:Tb rows n m)(hs:(cfg rows f).st=(cfg rows l).st)(hp:(cfg rows f).pl≠(cfg rows l).pl):Yn rows f l↔∀x,QaU rows f l x:=by
 have gf:=(Ys T f).good
 have gl:=(Ys T l).good
 unfold Yn QaU JU
 by_cases hlt:(cfg rows f).pl<(cfg rows l).pl
 ·rw[Uc hlt,Qis gf.up gl.up gf.nz gl.nz]
  constructor
  ·rintro ⟨_,_,h⟩ x hx
   rw[Uc (by omega)]at hx
   have hx:=UI hx
   have:=h (x - (cfg rows f).pl) (Us (by omega))
   rw[show(cfg rows f).pl+(x - (cfg rows f).pl)=x by omega,show(cfg rows l).pl+(x - (cfg rows f).pl)=x+((cfg rows l).pl - (cfg rows f).pl) by omega]at this
   exact this
  ·intro h
   refine⟨hs,hp,λx hx=>?_⟩
   have hx:=UI hx
   have:=h ((cfg rows f).pl+x) (by rw[Uc (by omega)];exact Us (by omega))
   rw[show(cfg rows f).pl+x+((cfg rows l).pl - (cfg rows f).pl)=(cfg rows l).pl+x by omega]at this
   exact this
 ·rw[Uh hlt,Qis gf.up gl.up gf.nz gl.nz]
  constructor
  ·rintro ⟨_,_,h⟩ x hx
   rw[Uh (by omega)]at hx
   have hx:=UI hx
   have:=h (x - (cfg rows f).pl) (Us (by omega))
   rw[show(cfg rows f).pl+(x - (cfg rows f).pl)=x by omega,show(cfg rows l).pl+(x - (cfg rows f).pl)=x+((cfg rows l).pl - (cfg rows f).pl) by omega]at this
   exact this
  ·intro h
   refine⟨hs,hp,λx hx=>?_⟩
   have hx:=UI hx
   have:=h ((cfg rows f).pl+x) (by rw[Uh (by omega)];exact Us (by omega))
   rw[show(cfg rows f).pl+x+((cfg rows l).pl - (cfg rows f).pl)=(cfg rows l).pl+x by omega]at this
   exact this
theorem QiJ{d:Nat}{c:Cf}{x:Int}{ks:List (DK×D)}{o k:ME}{σ:S3}{g:G}(h1:g[d]?=some (.dct ks))(h2:DOk ks (Qk c))(h4:o σ g=.ok (.ref d) g)(h5:k σ g=.ok (.int x) g):Qal o k (mLit (.int 0)) σ g=.ok (.int (sg (Qk c) x:Nat)) g:=by
 unfold Qal
 rw[h4,Res.bind_ok]
 dsimp only
 rw[h1]
 dsimp only
 rw[h5,Res.bind_ok]
 show(match g[d]? with
  |some (.dct ks)=>Res.ok ((dGet ks (.inl x)).getD (.int 0)) g
  |_=>.stuck)=_
 rw[h1]
 dsimp only
 rw[h2.get]
 by_cases z:sg (Qk c) x=0
 ·rw[Uc z,z];rfl
 ·rw[Uh z];rfl
theorem QgR{f l df dl q:Nat}{kf kl:List (DK×D)}{x:Int}{y:Option D}{g:G}(hdf:g[df]?=some (.dct kf))(hokf:DOk kf (Qk (cfg rows f)))(hdl:g[dl]?=some (.dct kl))(hokl:DOk kl (Qk (cfg rows l))):
  (QaU rows f l x/\Zt [some (.ref r),some (.int f),some (.int l),some (Qm (cfg rows f) df),some (Qm (cfg rows l) dl),some (.ref q),some (.int (lo rows f (l-f))),some (.int (hi rows f (l-f))),some (.int ((cfg rows l).pl - (cfg rows f).pl)),some (.int x),y] g=.nx [some (.ref r),some (.int f),some (.int l),some (Qm (cfg rows f) df),some (Qm (cfg rows l) dl),some (.ref q),some (.int (lo rows f (l-f))),some (.int (hi rows f (l-f))),some (.int ((cfg rows l).pl - (cfg rows f).pl)),some (.int x),some (.bl (JU rows f l x))] g)\/(¬QaU rows f l x/\Zt [some (.ref r),some (.int f),some (.int l),some (Qm (cfg rows f) df),some (Qm (cfg rows l) dl),some (.ref q),some (.int (lo rows f (l-f))),some (.int (hi rows f (l-f))),some (.int ((cfg rows l).pl - (cfg rows f).pl)),some (.int x),y] g=.rt (.bl false) g):=by
 have w1:mIfE (Qf (mOp2 pGt (mVar 8) (mLit (.int 0)))) (mOp2 pGe (mVar 9) (mVar 6)) (mOp2 pLe (mVar 9) (mVar 7)) [some (.ref r),some (.int f),some (.int l),some (Qm (cfg rows f) df),some (Qm (cfg rows l) dl),some (.ref q),some (.int (lo rows f (l-f))),some (.int (hi rows f (l-f))),some (.int ((cfg rows l).pl - (cfg rows f).pl)),some (.int x),y] g=.ok (.bl (JU rows f l x)) g:=by
  have c1:Qf (mOp2 pGt (mVar 8) (mLit (.int 0))) [some (.ref r),some (.int f),some (.int l),some (Qm (cfg rows f) df),some (Qm (cfg rows l) dl),some (.ref q),some (.int (lo rows f (l-f))),some (.int (hi rows f (l-f))),some (.int ((cfg rows l).pl - (cfg rows f).pl)),some (.int x),y] g=.ok (decide (0<((cfg rows l).pl - (cfg rows f).pl))) g:=rfl
  unfold mIfE JU
  rw[c1,Res.bind_ok]
  by_cases z:0<((cfg rows l).pl - (cfg rows f).pl)
  ·rw[Us z,Uc rfl,Uc z];rfl
  ·rw[Uq z,Uh Ud,Uh z];rfl
 have t3:Qf (mOp2 pNe (Qal (mOp2 pIx (mVar 3) (mLit (.int 2))) (mVar 9) (mLit (.int 0))) (Qal (mOp2 pIx (mVar 4) (mLit (.int 2))) (mOp2 pAdd (mVar 9) (mVar 8)) (mLit (.int 0)))) [some (.ref r),some (.int f),some (.int l),some (Qm (cfg rows f) df),some (Qm (cfg rows l) dl),some (.ref q),some (.int (lo rows f (l-f))),some (.int (hi rows f (l-f))),some (.int ((cfg rows l).pl - (cfg rows f).pl)),some (.int x),some (.bl (JU rows f l x))] g=.ok (!((sg (Qk (cfg rows f)) x:Int) == sg (Qk (cfg rows l)) (x+((cfg rows l).pl - (cfg rows f).pl)))) g :=
  QB (Qn (g1:=g) (g2:=g) (QiJ hdf hokf rfl rfl) (QiJ hdl hokl rfl rfl) (ne_int _ _ _))
 have tt:=Qcj (A:=Qf (mVar 10)) (x:=JU rows f l x) rfl t3
 by_cases z:QaU rows f l x
 ·left
  refine⟨z,?_⟩
  unfold Zt
  refine Qg [some (.ref r),some (.int f),some (.int l),some (Qm (cfg rows f) df),some (Qm (cfg rows l) dl),some (.ref q),some (.int (lo rows f (l-f))),some (.int (hi rows f (l-f))),some (.int ((cfg rows l).pl - (cfg rows f).pl)),some (.int x),some (.bl (JU rows f l x))] g (Qw w1) (iff' g ?_ rfl)
  rw[tt]
  cases hw:JU rows f l x with
  |false=>rfl
  |true=>rw[z hw];simp
 ·right
  refine⟨z,?_⟩
  unfold Zt
  refine Qg [some (.ref r),some (.int f),some (.int l),some (Qm (cfg rows f) df),some (Qm (cfg rows l) dl),some (.ref q),some (.int (lo rows f (l-f))),some (.int (hi rows f (l-f))),some (.int ((cfg rows l).pl - (cfg rows f).pl)),some (.int x),some (.bl (JU rows f l x))] g (Qw w1) (ift g ?_ rfl)
  rw[tt]
  cases hw:JU rows f l x with
  |false=>exact absurd (λh=>by rw[hw]at h;cases h) z
  |true =>
   have:((sg (Qk (cfg rows f)) x:Int) == sg (Qk (cfg rows l)) (x+((cfg rows l).pl - (cfg rows f).pl)))=false:=T7 λh=>z λ_=>by exact_mod_cast h
   rw[this];rfl
theorem Qj6{f l:Nat}(X:Ctx rows n m M r N ds g)(hfl:f<l)(hl:l<=N)(hN:N<=32):∃b g',Jg [.ref r,.int f,.int l] g=.ok (.bl b) g'/\Keeps [] g g'/\(b=true↔Yn rows f l):=by
 obtain⟨yf,hyf,df,kf,rfl,hdf,hokf,_⟩:=X.all f (by omega)
 obtain⟨yl,hyl,dl,kl,rfl,hdl,hokl,_⟩:=X.all l hl
 have gf:=(Ys X.tb f).good
 have gl:=(Ys X.tb l).good
 have zf:=Jn X.tb f
 have zl:=Jn X.tb l
 have s1:mAsg (Yo [(gSet 3),(gSet 4)]) (mOpA pTup (Qb (mOp2 pIx (mVar 0) (mVar 1)) (Qb (mOp2 pIx (mVar 0) (mVar 2)) mNil))) [some (.ref r),some (.int f),some (.int l),none,none,none,none,none,none,none,none] g=.nx [some (.ref r),some (.int f),some (.int l),some (Qm (cfg rows f) df),some (Qm (cfg rows l) dl),none,none,none,none,none,none] g:=by
  have:mOpA pTup (Qb (mOp2 pIx (mVar 0) (mVar 1)) (Qb (mOp2 pIx (mVar 0) (mVar 2)) mNil)) [some (.ref r),some (.int f),some (.int l),none,none,none,none,none,none,none,none] g=.ok (.tup [Qm (cfg rows f) df,Qm (cfg rows l) dl]) g :=
   QaT (Qz (g1:=g) (Qn (x:=.ref r) (y:=.int f) (g1:=g) (g2:=g) rfl rfl (JQ X.row hyf)) (Qz (g1:=g) (Qn (x:=.ref r) (y:=.int l) (g1:=g) (g2:=g) rfl rfl (JQ X.row hyl)) rfl)) rfl
  unfold mAsg
  rw[this]
  rfl
 have t1:Qf (mOp2 pNe (mOp2 pIx (mVar 3) (mLit (.int 0))) (mOp2 pIx (mVar 4) (mLit (.int 0)))) [some (.ref r),some (.int f),some (.int l),some (Qm (cfg rows f) df),some (Qm (cfg rows l) dl),none,none,none,none,none,none] g=.ok (!(((cfg rows f).st:Int) == (cfg rows l).st)) g:=rfl
 have t2:Qf (mOp2 pEq (mOp2 pIx (mVar 3) (mLit (.int 1))) (mOp2 pIx (mVar 4) (mLit (.int 1)))) [some (.ref r),some (.int f),some (.int l),some (Qm (cfg rows f) df),some (Qm (cfg rows l) dl),none,none,none,none,none,none] g=.ok ((cfg rows f).pl == (cfg rows l).pl) g:=rfl
 by_cases hs:¬((cfg rows f).st=(cfg rows l).st/\(cfg rows f).pl≠(cfg rows l).pl)
 ·refine⟨false,g,QJ rfl ?_,.refl,?_⟩
  ·show JH [some (.ref r),some (.int f),some (.int l),none,none,none,none,none,none,none,none] g=_
   unfold JH
   refine Qg _ g s1 (ZL (ift g ?_ rfl))
   rw[Qgc t1 t2]
   by_cases z:(cfg rows f).st=(cfg rows l).st
   ·by_cases w:(cfg rows f).pl=(cfg rows l).pl
    ·rw[w];simp
    ·exact absurd ⟨z,w⟩ hs
   ·have:(((cfg rows f).st:Int) == (cfg rows l).st)=false:=T7 (by omega)
    rw[this];rfl
  ·simp only[Tj,false_iff]
   intro h
   exact hs ⟨h.1,h.2.1⟩
 have hs:(cfg rows f).st=(cfg rows l).st/\(cfg rows f).pl≠(cfg rows l).pl:=Classical.not_not.mp hs
 -- the places
 have hlen:=X.len
 have e1:QcP (mVar 0) (QcB (mVar 1)) (QcB (mOp2 pAdd (mVar 2) (mLit (.int 1)))) [some (.ref r),some (.int f),some (.int l),some (Qm (cfg rows f) df),some (Qm (cfg rows l) dl),none,none,none,none,none,none] g=.ok (.ref g.length) (g++[.lst ((ds.drop f).take (l+1-f))]):=by
  have:=QiC (o:=mVar 0) (lo:=QcB (mVar 1)) (hi:=QcB (mOp2 pAdd (mVar 2) (mLit (.int 1)))) (l:=some (f:Int)) (h:=some ((l+1:Nat):Int)) (σ:=[some (.ref r),some (.int f),some (.int l),some (Qm (cfg rows f) df),some (Qm (cfg rows l) dl),none,none,none,none,none,none]) (g:=g) (g1:=g) rfl rfl rfl X.row
  rw[QlW (by omega) (by omega)]at this
  exact this
 have k1:Keeps [] g (g++[.lst ((ds.drop f).take (l+1-f))]):=.push _
 have hp1:(g++[GO.lst ((ds.drop f).take (l+1-f))])[g.length]?=some (.lst ((ds.drop f).take (l+1-f))):=QD _
 generalize g++[GO.lst ((ds.drop f).take (l+1-f))]=g1 at e1 k1 hp1
 have hlen2:((ds.drop f).take (l+1-f)).length=l+1-f:=by rw[Wc,List.length_drop];omega
 have hit:QQ (QcP (mVar 0) (QcB (mVar 1)) (QcB (mOp2 pAdd (mVar 2) (mLit (.int 1))))) [some (.ref r),some (.int f),some (.int l),some (Qm (cfg rows f) df),some (Qm (cfg rows l) dl),none,none,none,none,none,none] g=.ok (srcL g.length (l+1-f)) g1:=by
  unfold QQ
  rw[e1,Res.bind_ok]
  unfold QaC
  dsimp only
  rw[hp1]
  dsimp only
  rw[hlen2]
  rfl
 obtain⟨xs,σ',g2,h1,h2,h3,h4⟩:=Zy (src:=srcL g.length (l+1-f)) (t:=gSet 0) (c:=Yf) (e:=mOp2 pIx (mVar 0) (mLit (.int 1))) (n:=l+1-f)
  (λi σ' g2 acc=>acc=(plsD rows f i).map .int/\g2=g1/\∃u,σ'=[u]) (λi σ' g2 acc hi' hQ=>by
   obtain⟨h1,h2,u,h3⟩:=hQ
   subst h2 h3
   obtain⟨y,hy,d,ks,rfl,_⟩:=X.all (f+i) (by omega)
   refine⟨Qm (cfg rows (f+i)) d,[some (Qm (cfg rows (f+i)) d)],g2,?_,rfl,.inl ⟨.int (cfg rows (f+i)).pl,g2,rfl,Qn (g1:=g2) (g2:=g2) rfl rfl (QlT g2),?_,rfl,_,rfl⟩⟩
   ·show(match g2[g.length]? with|some (.lst es)=>some es[i]? | _=>none)=_
    rw[hp1]
    show some ((ds.drop f).take (l+1-f))[i]?=_
    rw[List.getElem?_take,Uc hi',List.getElem?_drop,hy]
   ·rw[h1]
    unfold plsD
    rw[Wu,UV,UV];rfl) (λσ g2 acc hQ=>by
   obtain⟨_,h2,_⟩:=hQ
   subst h2
   show(match g2[g.length]? with|some (.lst es)=>some es[l+1-f]? | _=>none)=_
   rw[hp1]
   show some ((ds.drop f).take (l+1-f))[l+1-f]?=_
   rw[TJ (by omega)]) (l+1-f+1) 0 [none] g1 [] (by omega) (by omega) ⟨rfl,rfl,none,rfl⟩
 subst h2 h3
 have hc:=JP (σ0:=[none]) (n:=1) (cap:=[]) hit (U3 (JN (show l+1-f<=1000 by omega))) rfl h1
 have k2:Keeps [] g2 (g2++[.lst ((plsD rows f (l+1-f)).map .int)]):=.push _
 have hp2:(g2++[GO.lst ((plsD rows f (l+1-f)).map .int)])[g2.length]?=some (.lst ((plsD rows f (l+1-f)).map .int)):=QD _
 have k02:=k1.trans k2
 have hdf2:=k02.at' _ _ (by simp) hdf
 have hdl2:=k02.at' _ _ (by simp) hdl
 generalize g2++[GO.lst ((plsD rows f (l+1-f)).map .int)]=g3 at hc k2 hp2 k02 hdf2 hdl2
 generalize g2.length=q at hc hp2
 have hmin:minZ (plsD rows f (l+1-f))=some (lo rows f (l-f)):=by
  obtain⟨i,a1,a2⟩:=QkK (rows:=rows) f (l-f)
  exact QlU (mem_pls.mpr ⟨i,by omega,a2⟩) λa ha=>by
   obtain⟨j,b1,rfl⟩:=mem_pls.mp ha
   exact Qnx f (l-f) j (by omega)
 have hmax:maxZ (plsD rows f (l+1-f))=some (hi rows f (l-f)):=by
  obtain⟨i,a1,a2⟩:=QkL (rows:=rows) f (l-f)
  exact QlV (mem_pls.mpr ⟨i,by omega,a2⟩) λa ha=>by
   obtain⟨j,b1,rfl⟩:=mem_pls.mp ha
   exact Qny f (l-f) j (by omega)
 have s4:mAsg (Yo [(gSet 6),(gSet 7)]) (mOpA pTup (Qb (mOp1 Qh3 (mVar 5)) (Qb (mOp1 Qh4 (mVar 5)) mNil))) [some (.ref r),some (.int f),some (.int l),some (Qm (cfg rows f) df),some (Qm (cfg rows l) dl),some (.ref q),none,none,none,none,none] g3=.nx [some (.ref r),some (.int f),some (.int l),some (Qm (cfg rows f) df),some (Qm (cfg rows l) dl),some (.ref q),some (.int (lo rows f (l-f))),some (.int (hi rows f (l-f))),none,none,none] g3:=by
  have:mOpA pTup (Qb (mOp1 Qh3 (mVar 5)) (Qb (mOp1 Qh4 (mVar 5)) mNil)) [some (.ref r),some (.int f),some (.int l),some (Qm (cfg rows f) df),some (Qm (cfg rows l) dl),some (.ref q),none,none,none,none,none] g3=.ok (.tup [.int (lo rows f (l-f)),.int (hi rows f (l-f))]) g3 :=
   QaT (Qz (g1:=g3) (ZW (x:=.ref q) (g1:=g3) rfl (by unfold Qh3;dsimp only;rw[hp2];dsimp only;rw[QaS];dsimp only;rw[hmin])) (Qz (g1:=g3) (ZW (x:=.ref q) (g1:=g3) rfl (by unfold Qh4;dsimp only;rw[hp2];dsimp only;rw[QaS];dsimp only;rw[hmax])) rfl)) rfl
  unfold mAsg
  rw[this]
  rfl
 have s5:mAsg (gSet 8) (mOp2 pSub (mOp2 pIx (mVar 4) (mLit (.int 1))) (mOp2 pIx (mVar 3) (mLit (.int 1)))) [some (.ref r),some (.int f),some (.int l),some (Qm (cfg rows f) df),some (Qm (cfg rows l) dl),some (.ref q),some (.int (lo rows f (l-f))),some (.int (hi rows f (l-f))),none,none,none] g3=.nx [some (.ref r),some (.int f),some (.int l),some (Qm (cfg rows f) df),some (Qm (cfg rows l) dl),some (.ref q),some (.int (lo rows f (l-f))),some (.int (hi rows f (l-f))),some (.int ((cfg rows l).pl - (cfg rows f).pl)),none,none] g3:=Qw rfl
 -- the spots
 obtain⟨isf,a1,_,a3⟩:=hokf.keys
 obtain⟨isl,b1,_,b3⟩:=hokl.keys
 have lf:=hokf.klen gf a1
 have ll:=hokl.klen gl b1
 have k3:Keeps [] g3 (g3++[.lst (isf.map .int)]):=.push _
 have x1:mOp1 Qa8 (mOp2 pIx (mVar 3) (mLit (.int 2))) [some (.ref r),some (.int f),some (.int l),some (Qm (cfg rows f) df),some (Qm (cfg rows l) dl),some (.ref q),some (.int (lo rows f (l-f))),some (.int (hi rows f (l-f))),some (.int ((cfg rows l).pl - (cfg rows f).pl)),none,none] g3=.ok (.ref g3.length) (g3++[.lst (isf.map .int)]):=ZW (x:=.ref df) (g1:=g3) rfl (by unfold Qa8;dsimp only;rw[hdf2];dsimp only;rw[a1];dsimp only;rw[Uc (by omega)])
 have hk1:(g3++[GO.lst (isf.map .int)])[g3.length]?=some (.lst (isf.map .int)):=QD _
 have hdf3:=k3.at' _ _ (by simp) hdf2
 have hdl3:=k3.at' _ _ (by simp) hdl2
 generalize g3++[GO.lst (isf.map .int)]=g4 at x1 k3 hk1 hdf3 hdl3
 generalize g3.length=q1 at x1 hk1
 have x2:=Qj5 (i:=4) (c:=8) (δ:=((cfg rows l).pl - (cfg rows f).pl)) (σ:=[some (.ref r),some (.int f),some (.int l),some (Qm (cfg rows f) df),some (Qm (cfg rows l) dl),some (.ref q),some (.int (lo rows f (l-f))),some (.int (hi rows f (l-f))),some (.int ((cfg rows l).pl - (cfg rows f).pl)),none,none]) (g:=g4) rfl hdl3 b1 (by omega) rfl
 have k4:Keeps [] g4 (g4++[.lst (isl.map λx=>.int (x - ((cfg rows l).pl - (cfg rows f).pl)))]):=.push _
 have hk2:(g4++[GO.lst (isl.map λx=>.int (x - ((cfg rows l).pl - (cfg rows f).pl)))])[g4.length]?=some (.lst (isl.map λx=>.int (x - ((cfg rows l).pl - (cfg rows f).pl)))):=QD _
 have hk1':=k4.at' _ _ (by simp) hk1
 have hdf4:=k4.at' _ _ (by simp) hdf3
 have hdl4:=k4.at' _ _ (by simp) hdl3
 generalize g4++[GO.lst (isl.map λx=>.int (x - ((cfg rows l).pl - (cfg rows f).pl)))]=g5 at x2 k4 hk2 hk1' hdf4 hdl4
 generalize g4.length=q2 at x2 hk2
 have x3:mOp2 pAdd (mOp1 Qa8 (mOp2 pIx (mVar 3) (mLit (.int 2)))) (Qbr 4 2 1 [8] (gSet 0) Yf (mOp2 pSub (mVar 0) (mVar 1))) [some (.ref r),some (.int f),some (.int l),some (Qm (cfg rows f) df),some (Qm (cfg rows l) dl),some (.ref q),some (.int (lo rows f (l-f))),some (.int (hi rows f (l-f))),some (.int ((cfg rows l).pl - (cfg rows f).pl)),none,none] g3=.ok (.ref g5.length) (g5++[.lst ((isf++isl.map λx=>x - ((cfg rows l).pl - (cfg rows f).pl)).map .int)]):=by
  refine Qn x1 x2 ?_
  unfold pAdd
  dsimp only
  rw[hk1',hk2]
  dsimp only
  rw[Uc (U3 (JN (by rw[Um,Um];omega))),UV,List.map_map]
  rfl
 have k5:Keeps [] g5 (g5++[.lst ((isf++isl.map λx=>x - ((cfg rows l).pl - (cfg rows f).pl)).map .int)]):=.push _
 have hsp:(g5++[GO.lst ((isf++isl.map λx=>x - ((cfg rows l).pl - (cfg rows f).pl)).map .int)])[g5.length]?=some (.lst ((isf++isl.map λx=>x - ((cfg rows l).pl - (cfg rows f).pl)).map .int)):=QD _
 have hdf5:=k5.at' _ _ (by simp) hdf4
 have hdl5:=k5.at' _ _ (by simp) hdl4
 generalize g5++[GO.lst ((isf++isl.map λx=>x - ((cfg rows l).pl - (cfg rows f).pl)).map .int)]=g6 at x3 k5 hsp hdf5 hdl5
 generalize g5.length=q3 at x3 hsp
 have cover:(∀x,x∈isf++(isl.map λx=>x - ((cfg rows l).pl - (cfg rows f).pl))->QaU rows f l x)->∀x,QaU rows f l x:=λh x=>by
  by_cases z1:x∈isf
  ·exact h x (UQ _ z1)
  ·by_cases z2:x+((cfg rows l).pl - (cfg rows f).pl)∈isl
   ·exact h x (Uv _ (Rk.mpr ⟨_,z2,by omega⟩))
   ·intro _
    rw[a3]at z1
    rw[b3]at z2
    omega
 generalize isf++(isl.map λx=>x - ((cfg rows l).pl - (cfg rows f).pl))=sp at hsp cover x3
 have hit3:QQ (mOp2 pAdd (mOp1 Qa8 (mOp2 pIx (mVar 3) (mLit (.int 2)))) (Qbr 4 2 1 [8] (gSet 0) Yf (mOp2 pSub (mVar 0) (mVar 1)))) [some (.ref r),some (.int f),some (.int l),some (Qm (cfg rows f) df),some (Qm (cfg rows l) dl),some (.ref q),some (.int (lo rows f (l-f))),some (.int (hi rows f (l-f))),some (.int ((cfg rows l).pl - (cfg rows f).pl)),none,none] g3=.ok (srcL q3 sp.length) g6:=by
  unfold QQ
  rw[x3,Res.bind_ok]
  unfold QaC
  dsimp only
  rw[hsp]
  dsimp only
  rw[Um]
  rfl
 have L:=Ye (src:=srcL q3 sp.length) (t:=gSet 9) (body:=Zt) (n:=sp.length)
  (λi σ g7=>(∃y9 y10,σ=[some (.ref r),some (.int f),some (.int l),some (Qm (cfg rows f) df),some (Qm (cfg rows l) dl),some (.ref q),some (.int (lo rows f (l-f))),some (.int (hi rows f (l-f))),some (.int ((cfg rows l).pl - (cfg rows f).pl)),y9,y10])/\g7=g6/\∀(j:Nat)(x:Int),j<i->sp[j]?=some x->QaU rows f l x)
  (λo=>o=.rt (.bl false) g6/\¬ ∀x,QaU rows f l x) (λi σ g7 hi' hQ=>by
   obtain⟨⟨y9,y10,i1⟩,i2,i3⟩:=hQ
   subst i1 i2
   refine⟨.int sp[i],[some (.ref r),some (.int f),some (.int l),some (Qm (cfg rows f) df),some (Qm (cfg rows l) dl),some (.ref q),some (.int (lo rows f (l-f))),some (.int (hi rows f (l-f))),some (.int ((cfg rows l).pl - (cfg rows f).pl)),some (.int sp[i]),y10],?_,rfl,?_⟩
   ·show(match g7[q3]? with|some (.lst es)=>some es[i]? | _=>none)=_
    rw[hsp]
    simp[hi']
   rcases QgR (q:=q) (x:=sp[i]) (y:=y10) (r:=r) hdf5 hokf hdl5 hokl with⟨z,e⟩|⟨z,e⟩
   ·refine .inl ⟨_,g7,.inl e,⟨_,_,rfl⟩,rfl,λj x hj hx=>?_⟩
    by_cases w:j=i
    ·subst w
     rw[To hi']at hx
     cases hx
     exact z
    ·exact i3 j x (by omega) hx
   ·exact .inr ⟨by rw[e];trivial,e,λh=>z (h _)⟩) (λσ g7 hQ=>by
   obtain⟨_,i2,_⟩:=hQ
   subst i2
   show(match g7[q3]? with|some (.lst es)=>some es[sp.length]? | _=>none)=_
   rw[hsp]
   simp) (sp.length+1) 0 [some (.ref r),some (.int f),some (.int l),some (Qm (cfg rows f) df),some (Qm (cfg rows l) dl),some (.ref q),some (.int (lo rows f (l-f))),some (.int (hi rows f (l-f))),some (.int ((cfg rows l).pl - (cfg rows f).pl)),none,none] g6 (by omega) (by omega) ⟨⟨_,_,rfl⟩,rfl,λj x hj=>by omega⟩
 have start:∀{R:D}{g':G},mSeq (mFor (QQ (mOp2 pAdd (mOp1 Qa8 (mOp2 pIx (mVar 3) (mLit (.int 2)))) (Qbr 4 2 1 [8] (gSet 0) Yf (mOp2 pSub (mVar 0) (mVar 1))))) (gSet 9) Zt) (mRet (mLit (.bl true))) [some (.ref r),some (.int f),some (.int l),some (Qm (cfg rows f) df),some (Qm (cfg rows l) dl),some (.ref q),some (.int (lo rows f (l-f))),some (.int (hi rows f (l-f))),some (.int ((cfg rows l).pl - (cfg rows f).pl)),none,none] g3=.rt R g'->Jg [.ref r,.int f,.int l] g=.ok R g':=λh=>by
  refine QJ rfl ?_
  show JH [some (.ref r),some (.int f),some (.int l),none,none,none,none,none,none,none,none] g=_
  unfold JH
  have hst:(((cfg rows f).st:Int) == (cfg rows l).st)=true:=Td.mpr (by rw[hs.1])
  refine Qg _ g s1 (Qg _ g (iff' g (by rw[Qgc t1 t2,hst,T7 hs.2];rfl) rfl) ?_)
  refine Qg [some (.ref r),some (.int f),some (.int l),some (Qm (cfg rows f) df),some (Qm (cfg rows l) dl),some (.ref q),none,none,none,none,none] g3 (Qw hc) ?_
  refine Qg _ g3 s4 ?_
  refine Qg _ g3 s5 ?_
  exact h
 have kk:Keeps [] g g6:=k02.trans (k3.trans (k4.trans k5))
 rw[Qfj X.tb hs.1 hs.2]
 rcases L with⟨σ',g7,e4,_,i2,i3⟩|⟨_,e4,h4⟩
 ·subst i2
  refine⟨true,g7,start (Qg _ g7 ((YJ hit3).trans e4) rfl),kk,λ_=>cover λx hx=>?_,λ_=>rfl⟩
  obtain⟨j,hj,e⟩:=List.mem_iff_getElem.mp hx
  exact i3 j x hj (by rw[To hj,e])
 ·exact⟨false,g6,start (ZL ((YJ hit3).trans e4)),kk,(λh=>absurd h (by decide)),λh=>absurd h h4⟩
end
section
variable{rows:List (List D)}{n m M r N:Nat}{ds:List D}{g:G}
theorem Ql2{k:Nat}(hk:k<=32)(hN:(runC rows 32 c0).2=N):(runC rows k c0).2=if k<=N then k else N:=by
 by_cases z:k<=N
 ·rw[Uc z]
  exact Qfh (k:=32) (by rw[hN];exact z)
 ·rw[Uh z]
  have hlt:(runC rows 32 c0).2<32:=by omega
  rw[JT (rows:=rows) 32 k c0 (Qiz 32 c0 hlt) (by omega),hN]
def Qj7(rows:List (List D))(P:Nat->Nat->Prop)(r:Nat)(most:Int)(k:Str)(N:Nat)(g:G):Prop:=∀(f l:Nat)(g1:G),f<l->l<=N->Keeps [] g g1->∃g2,Keeps [] g1 g2 /\
 ((P f l/\Qx [some (.ref r),some (.int most),some (.str k),some (.int l),some (.int f)] g1=.rt (.tup [.str k,.int f,.int l]) g2)\/(¬P f l/\Qx [some (.ref r),some (.int most),some (.str k),some (.int l),some (.int f)] g1=.nx [some (.ref r),some (.int most),some (.str k),some (.int l),some (.int f)] g2))
theorem Qj8{P:Nat->Nat->Prop}{most:Int}{k:Str}{l:Nat}{g1:G}{x4:Option D}(B:Qj7 rows P r most k N g)(hl:l<=N)(hN:N<=32)(k1:Keeps [] g g1):∃g2,Keeps [] g1 g2 /\
  ((∃f,f<l/\P f l/\(∀i,i<f->¬P i l)/\QU [some (.ref r),some (.int most),some (.str k),some (.int l),x4] g1=.rt (.tup [.str k,.int f,.int l]) g2)\/((∀i,i<l->¬P i l)/\∃y4,QU [some (.ref r),some (.int most),some (.str k),some (.int l),x4] g1=.nx [some (.ref r),some (.int most),some (.str k),some (.int l),y4] g2)):=by
 have L:=Ye (src:=QI 0 l) (t:=gSet 4) (body:=Qx) (n:=l)
  (λi σ g3=>(∃y4,σ=[some (.ref r),some (.int most),some (.str k),some (.int l),y4])/\Keeps [] g1 g3/\∀f,f<i->¬P f l)
  (λo=>∃(f:Nat)(g3:G),o=.rt (.tup [.str k,.int f,.int l]) g3/\Keeps [] g1 g3/\f<l/\P f l/\∀i,i<f->¬P i l) (λi σ g3 hi hQ=>by
   obtain⟨⟨y4,i1⟩,i2,i3⟩:=hQ
   subst i1
   obtain⟨g4,k4,h4⟩:=B i l g3 hi hl (k1.trans i2)
   refine⟨.int i,[some (.ref r),some (.int most),some (.str k),some (.int l),some (.int i)],by simp[QI,hi],rfl,?_⟩
   rcases h4 with⟨h5,h6⟩|⟨h5,h6⟩
   ·exact .inr ⟨by rw[h6];trivial,i,g4,h6,i2.trans k4,hi,h5,i3⟩
   ·refine .inl ⟨_,g4,.inl h6,⟨_,rfl⟩,i2.trans k4,λf hf=>?_⟩
    by_cases z:f=i
    ·subst z;exact h5
    ·exact i3 f (by omega)) (λσ g3 _=>by simp[QI]) (l+1) 0 [some (.ref r),some (.int most),some (.str k),some (.int l),x4] g1 (by omega) (by omega) ⟨⟨_,rfl⟩,.refl,λf hf=>by omega⟩
 have hf:=YJ (t:=gSet 4) (body:=Qx) (JO (a:=mVar 3) (n:=l) (σ:=[some (.ref r),some (.int most),some (.str k),some (.int l),x4]) (g:=g1) (g':=g1) rfl (QaP (by omega)))
 have e0:QU [some (.ref r),some (.int most),some (.str k),some (.int l),x4] g1=forL (QI 0 l) (gSet 4) Qx (l+1) 0 [some (.ref r),some (.int most),some (.str k),some (.int l),x4] g1:=hf
 rcases L with⟨σ',g3,e3,⟨y4,i1⟩,i2,i3⟩|⟨_,f,g3,e3,i2,h1,h2,h3⟩
 ·rw[i1]at e3
  exact⟨g3,i2,.inr ⟨i3,y4,e0.trans e3⟩⟩
 ·exact⟨g3,i2,.inl ⟨f,h1,h2,h3,e0.trans e3⟩⟩
theorem QiK{P:Nat->Nat->Prop}{most:Int}{k:Str}(X:Ctx rows n m M r N ds g)(B:Qj7 rows P r most k N g)(hN:N<=32)(h1:-10<=most)(h2:most<=32):
  ∃x g',Q2 [.ref r,.int most,.str k] g=.ok x g'/\Keeps [] g g'/\Found P (runC rows most.toNat c0).2 k x:=by
 have hK:=Ql2 (rows:=rows) (k:=most.toNat) (by omega) X.run
 have hlen:=X.len
 have hit:Q7 (mLit (.int 1)) (mOp2 Qdg (mOp1 pLen (mVar 0)) (mOp2 pAdd (mVar 1) (mLit (.int 1)))) [some (.ref r),some (.int most),some (.str k),none,none] g=.ok (QI 1 (runC rows most.toNat c0).2) g:=by
  have e:mOp2 Qdg (mOp1 pLen (mVar 0)) (mOp2 pAdd (mVar 1) (mLit (.int 1))) [some (.ref r),some (.int most),some (.str k),none,none] g=.ok (.int (if most+1<(N:Int)+1 then most+1 else (N:Int)+1)) g:=Qn (x:=.int ((N:Int)+1)) (y:=.int (most+1)) (g1:=g) (g2:=g) (ZW (x:=.ref r) (g1:=g) rfl (by unfold pLen;dsimp only;rw[X.row];dsimp only;rw[hlen];rfl)) rfl rfl
  have r1:inR (1:Int):=by unfold inR;omega
  have r2:inR (if most+1<(N:Int)+1 then most+1 else (N:Int)+1):=by unfold inR;split <;> omega
  unfold Q7
  rw[show mLit (.int 1) [some (.ref r),some (.int most),some (.str k),none,none] g=Res.ok (D.int 1) g from rfl,Res.bind_ok,e,Res.bind_ok]
  dsimp only
  rw[Uc ⟨r1,r2⟩,hK]
  congr 2
  split <;> split <;> omega
 have hKN:(runC rows most.toNat c0).2<=N:=by rw[hK];split <;> omega
 generalize (runC rows most.toNat c0).2=K at hit hKN ⊢
 have L:=Ye (src:=QI 1 K) (t:=gSet 3) (body:=QU) (n:=K)
  (λi σ g3=>(∃y3 y4,σ=[some (.ref r),some (.int most),some (.str k),y3,y4])/\Keeps [] g g3/\∀l,l<=i->∀f,f<l->¬P f l)
  (λo=>∃x g3,o=.rt x g3/\Keeps [] g g3/\Found P K k x) (λi σ g3 hi' hQ=>by
   obtain⟨⟨y3,y4,i1⟩,i2,i4⟩:=hQ
   subst i1
   obtain⟨g4,k4,h4⟩:=Qj8 (l:=i+1) (x4:=y4) B (by omega) hN i2
   refine⟨.int ((i+1:Nat):Int),[some (.ref r),some (.int most),some (.str k),some (.int ((i+1:Nat):Int)),y4],by simp[QI,hi'];omega,rfl,?_⟩
   rcases h4 with⟨f,b1,b2,b3,eb⟩|⟨b,y4',eb⟩
   ·exact .inr ⟨by rw[eb];trivial,_,g4,eb,i2.trans k4,.inl ⟨f,i+1,rfl,b1,by omega,b2,b3,λl' hl'=>i4 l' (by omega)⟩⟩
   ·refine .inl ⟨_,g4,.inl eb,⟨_,_,rfl⟩,i2.trans k4,λl hl f hf h=>?_⟩
    by_cases z:l=i+1
    ·subst z;exact b f hf h
    ·exact i4 l (by omega) f hf h) (λσ g3 hQ=>by simp[QI]) (K+1) 0 [some (.ref r),some (.int most),some (.str k),none,none] g (by omega) (by omega) ⟨⟨_,_,rfl⟩,.refl,λl hl f hf=>by omega⟩
 have start:∀{x:D}{g':G},mSeq (mFor (Q7 (mLit (.int 1)) (mOp2 Qdg (mOp1 pLen (mVar 0)) (mOp2 pAdd (mVar 1) (mLit (.int 1))))) (gSet 3) QU) (mRet (mLit .non)) [some (.ref r),some (.int most),some (.str k),none,none] g=.rt x g'->Q2 [.ref r,.int most,.str k] g=.ok x g':=λh=>by
  refine QJ rfl ?_
  show Y5 [some (.ref r),some (.int most),some (.str k),none,none] g=_
  unfold Y5
  exact h
 rcases L with⟨σ',g3,e3,_,i2,i4⟩|⟨_,x,g3,e3,i2,i4⟩
 ·exact⟨.non,g3,start (Qg _ g3 ((YJ hit).trans e3) rfl),i2,.inr ⟨rfl,λl hl f hf=>i4 l (by omega) f hf⟩⟩
 ·exact⟨x,g3,start (ZL ((YJ hit).trans e3)),i2,i4⟩
theorem Qoe:(Str.ofString "same" == Str.ofString "shifted")=false:=by decide +kernel
theorem QnC:(Str.ofString "shifted" == Str.ofString "same")=false:=by decide +kernel
theorem QaV{r l f:Nat}{most:Int}{k w:Str}{g:G}:Qf (mOp2 pEq (mVar 2) (mLit (.str w))) [some (.ref r),some (.int most),some (.str k),some (.int l),some (.int f)] g=.ok (k == w) g:=rfl
theorem QdB{A B:MT}{σ:S3}{g g1:G}{R:Res Bool}(h1:A σ g=.ok true g1)(h2:B σ g1=R):ZN A B σ g=R:=by unfold ZN;rw[h1,Res.bind_ok,Uc rfl,h2]
theorem QkN{A B:MT}{σ:S3}{g g1:G}(h1:A σ g=.ok false g1):ZN A B σ g=.ok false g1:=by unfold ZN;rw[h1,Res.bind_ok];rfl
theorem QiL(X:Ctx rows n m M r N ds g)(hN:N<=32)(most:Int):Qj7 rows (Qak rows) r most (Str.ofString "same") N g:=λf l g1 hfl hl k1=>by
 have X1:=X.mono k1
 obtain⟨yf,hyf,df,kf,rfl,hdf,hokf,_⟩:=X1.all f (by omega)
 obtain⟨yl,hyl,dl,kl,rfl,hdl,hokl,_⟩:=X1.all l hl
 have zf:=Jn X.tb f
 have zl:=Jn X.tb l
 obtain⟨g2,e2,k2⟩:=Qgb hdf hokf (Ys X.tb f).good (by omega)
 obtain⟨g3,e3,k3⟩:=Qgb (k2.at' _ _ (by simp) hdl) hokl (Ys X.tb l).good (by omega)
 have X2:=X1.mono k2
 have t2:Qf (mOp2 pEq (Qr J8 (Qb (mOp2 pIx (mVar 0) (mVar 4)) mNil)) (Qr J8 (Qb (mOp2 pIx (mVar 0) (mVar 3)) mNil))) [some (.ref r),some (.int most),some (.str "same"),some (.int l),some (.int f)] g1=.ok (decide (((cfg rows f).st:Int)=(cfg rows l).st/\(cfg rows f).pl=(cfg rows l).pl/\Qk (cfg rows f)=Qk (cfg rows l))) g3:=by
  have a1:Qb (mOp2 pIx (mVar 0) (mVar 4)) mNil [some (.ref r),some (.int most),some (.str "same"),some (.int l),some (.int f)] g1=.ok [Qm (cfg rows f) df] g1:=Qz (Qn (x:=.ref r) (y:=.int f) (g1:=g1) (g2:=g1) rfl rfl (JQ X1.row hyf)) rfl
  have a2:Qb (mOp2 pIx (mVar 0) (mVar 3)) mNil [some (.ref r),some (.int most),some (.str "same"),some (.int l),some (.int f)] g2=.ok [Qm (cfg rows l) dl] g2:=Qz (Qn (x:=.ref r) (y:=.int l) (g1:=g2) (g2:=g2) rfl rfl (JQ X2.row hyl)) rfl
  exact QB (Qn (by rw[Qv a1];exact e2) (by rw[Qv a2];exact e3) (Qiw _ _ _))
 have t1:Qf (mOp2 pEq (mVar 2) (mLit (.str "same"))) [some (.ref r),some (.int most),some (.str "same"),some (.int l),some (.int f)] g1=.ok true g1:=by rw[QaV];simp
 have t3:Qf (mOp2 pEq (mVar 2) (mLit (.str "shifted"))) [some (.ref r),some (.int most),some (.str "same"),some (.int l),some (.int f)] g3=.ok false g3:=by rw[QaV,Qoe]
 have hP:Qak rows f l↔(((cfg rows f).st:Int)=(cfg rows l).st/\(cfg rows f).pl=(cfg rows l).pl/\Qk (cfg rows f)=Qk (cfg rows l)):=by
  unfold Qak
  constructor
  ·rintro ⟨a,b,c⟩;exact⟨by omega,b,c⟩
  ·rintro ⟨a,b,c⟩;exact⟨by omega,b,c⟩
 refine⟨g3,k2.trans k3,?_⟩
 by_cases z:Qak rows f l
 ·left
  refine⟨z,?_⟩
  unfold Qx
  exact ZL (ift g3 (QdB t1 (by rw[t2,Us (hP.mp z)])) rfl)
 ·right
  refine⟨z,?_⟩
  unfold Qx
  refine Qg [some (.ref r),some (.int most),some (.str "same"),some (.int l),some (.int f)] g3 (iff' g3 (QdB t1 (by rw[t2,Uq (λh=>z (hP.mpr h))])) rfl) ?_
  exact iff' g3 (QkN t3) rfl
theorem Qet(X:Ctx rows n m M r N ds g)(hN:N<=32)(most:Int):Qj7 rows (Yn rows) r most (Str.ofString "shifted") N g:=λf l g1 hfl hl k1=>by
 have X1:=X.mono k1
 obtain⟨b,g2,e2,k2,hb⟩:=Qj6 X1 hfl hl hN
 have t1:Qf (mOp2 pEq (mVar 2) (mLit (.str "same"))) [some (.ref r),some (.int most),some (.str "shifted"),some (.int l),some (.int f)] g1=.ok false g1:=by rw[QaV,QnC]
 have t3:Qf (mOp2 pEq (mVar 2) (mLit (.str "shifted"))) [some (.ref r),some (.int most),some (.str "shifted"),some (.int l),some (.int f)] g1=.ok true g1:=by rw[QaV];simp
 have t4:Qf (Qr Jg (Qb (mVar 0) (Qb (mVar 4) (Qb (mVar 3) mNil)))) [some (.ref r),some (.int most),some (.str "shifted"),some (.int l),some (.int f)] g1=.ok b g2:=QB (by rw[Qv (ds:=[.ref r,.int f,.int l]) (g':=g1) rfl];exact e2)
 refine⟨g2,k2,?_⟩
 have start:∀{R:Out},mIf (ZN (Qf (mOp2 pEq (mVar 2) (mLit (.str "shifted")))) (Qf (Qr Jg (Qb (mVar 0) (Qb (mVar 4) (Qb (mVar 3) mNil)))))) (mRet (mOpA pTup (Qb (mVar 2) (Qb (mVar 4) (Qb (mVar 3) mNil))))) QN [some (.ref r),some (.int most),some (.str "shifted"),some (.int l),some (.int f)] g1=R->Qx [some (.ref r),some (.int most),some (.str "shifted"),some (.int l),some (.int f)] g1=R:=λh=>by
  unfold Qx
  refine Qg [some (.ref r),some (.int most),some (.str "shifted"),some (.int l),some (.int f)] g1 (iff' g1 (QkN t1) rfl) ?_
  exact h
 cases b with
 |true=>exact .inl ⟨hb.mp rfl,start (ift g2 (QdB t3 t4) rfl)⟩
 |false=>exact .inr ⟨λh=>absurd (hb.mpr h) (by decide),start (iff' g2 (QdB t3 t4) rfl)⟩
end
theorem Qj9(f:Nat)(i:Int)(g:G):Zg (f+1) [.int i,.int i] g=.ok (.bl true) g:=by
 refine QJ rfl ?_
 show Yq (Zg f) [some (.int i),some (.int i)] g=_
 unfold Yq
 refine Qg [some (.int i),some (.int i)] g rfl (Qg [some (.int i),some (.int i)] g rfl (Qg [some (.int i),some (.int i)] g rfl (ZE ?_)))
 simp[mAnd,mOp1,mNot,mOp2,mVar,Res.bind,Jp,tyOf,tyLe,eq_int]
theorem Qka(f:Nat)(w:Str)(g:G):Zg (f+1) [.str w,.str w] g=.ok (.bl true) g:=by
 refine QJ rfl ?_
 show Yq (Zg f) [some (.str w),some (.str w)] g=_
 unfold Yq
 refine Qg [some (.str w),some (.str w)] g rfl (Qg [some (.str w),some (.str w)] g rfl (ZL (ift g rfl (ZE ?_))))
 simp[mAnd,mOp1,mOp2,mVar,Res.bind,Jp,tyOf,tyLe,QlE,QlD]
def Qeu(f:Nat)(d:D):Prop:=∀g,∃g',Keeps [] g g'/\Zg f [d,d] g=.ok (.bl true) g'
theorem QnD(f:Nat)(i:Int):Qeu (f+1) (.int i):=λg=>⟨g,.refl,Qj9 f i g⟩
theorem Qof{f:Nat}{ds:List D}(hz:ds.length<=1000)(h:∀d∈ds,Qeu f d):Qeu (f+1) (.tup ds):=λg=>by
 obtain⟨src,s1,s2,s3⟩:=QlJ (g:=g) (d1:=.tup ds) (d2:=.tup ds) (b1:=false) (b2:=false) (xs:=ds) (ys:=ds) rfl rfl rfl
 obtain⟨xs,σ',g1,h1,h2,h3,h4⟩:=Zy (src:=src) (t:=Yo [gSet 0,gSet 1]) (c:=Yf) (e:=Qr (Zg f) (Qb (mVar 0) (Qb (mVar 1) mNil))) (n:=ds.length)
  (λi σ' g1 acc=>acc=List.replicate i (.bl true)/\Keeps [] g g1/\∃u v,σ'=[u,v]) (λi σ' g1 acc hi hQ=>by
   obtain⟨h1,h2,u,v,h3⟩:=hQ
   subst h3
   have hd:ds[i]?=some ds[i]:=by simp[hi]
   obtain⟨g2,k2,e2⟩:=h ds[i] (UZ hi) g1
   refine⟨.tup [ds[i],ds[i]],[some ds[i],some ds[i]],g1,(s3 g1 rfl rfl).2 i _ _ hd hd,rfl,.inl ⟨.bl true,g2,rfl,by rw[Qv (ds:=[ds[i],ds[i]]) (g':=g1) rfl];exact e2,?_,h2.trans k2,_,_,rfl⟩⟩
   rw[h1,Rw]) (λσ g1 acc hQ=>(s3 g1 rfl rfl).1) (src.top+1) 0 [none,none] g [] (by omega) (by omega) ⟨rfl,.refl,none,none,rfl⟩
 have hall:allB (List.replicate ds.length (D.bl true))=some true:=by
  induction ds.length with
  |zero=>rfl
  |succ k ih=>rw[T3];unfold allB;rw[ih];rfl
 refine⟨g1++[.lst xs],h3.trans (.push _),QJ rfl ?_⟩
 show Yq (Zg f) [some (.tup ds),some (.tup ds)] g=_
 unfold Yq
 refine ZL (ift g rfl (Qg [some (.tup ds),some (.tup ds)] g rfl (ZE ?_)))
 have a:mOp2 pEq (mOp1 pLen (mVar 0)) (mOp1 pLen (mVar 1)) [some (.tup ds),some (.tup ds)] g=.ok (.bl true) g:=Qn (x:=.int ds.length) (y:=.int ds.length) (g1:=g) (g2:=g) rfl rfl (by rw[eq_int];simp)
 have b:mOp1 pAll (ZO (QfA (mVar 0) (mVar 1)) 2 [] (Yo [(gSet 0),(gSet 1)]) Yf (Qr (Zg f) (Qb (mVar 0) (Qb (mVar 1) mNil)))) [some (.tup ds),some (.tup ds)] g=.ok (.bl true) (g1++[.lst xs]):=by
  refine ZW (JP (src:=src) (g1:=g) (g2:=g1) (ds:=xs) s1 (by rw[s2];exact U3 (JN hz)) rfl h1) ?_
  unfold pAll
  dsimp only
  rw[QD]
  dsimp only
  rw[h2,hall]
 unfold mAnd
 rw[a,Res.bind_ok]
 dsimp only
 rw[Uc rfl,b]
theorem Qog(f:Nat):Qeu (f+1) .non:=λg=>⟨g,.refl,by
 refine QJ rfl ?_
 show Yq (Zg f) [some .non,some .non] g=_
 unfold Yq
 exact Qg [some .non,some .non] g rfl (ZL (ift g rfl rfl))⟩
theorem QcV{P:Nat->Nat->Prop}{K:Nat}{k:Str}{x:D}(h:Found P K k x):Qeu 6 x:=by
 rcases h with⟨f,l,rfl,_⟩|⟨rfl,_⟩
 ·exact Qof (by simp) λd hd=>by
   rcases Uu.mp hd with rfl|hd
   ·exact λg=>⟨g,.refl,Qka _ _ g⟩
   ·rcases Uu.mp hd with rfl|hd
    ·exact QnD _ _
    ·rw[Uf.mp hd];exact QnD _ _
 ·exact Qog 5
theorem Qgf(k:Nat):allB (List.replicate k (D.bl true))=some true:=by
 induction k with
 |zero=>rfl
 |succ k ih=>rw[T3];unfold allB;rw[ih];rfl
section
variable{rows:List (List D)}{n m M r N:Nat}{ds:List D}{g:G}
theorem Ql3{f l:Nat}:Zv [.ref M,.tup [.str "shifted",.int f,.int l]] g=.ok (.bl false) g:=by
 have h:Ji [.tup [.str "shifted",.int f,.int l],.str "same"] g=.ok (.bl false) g:=by
  refine QJ rfl ?_
  show Jh [some (.tup [.str "shifted",.int f,.int l]),some (.str "same")] g=_
  unfold Jh
  have t1:Qf (mOp1 (Jp .tuple) (mVar 0)) [some (.tup [.str "shifted",.int f,.int l]),some (.str "same")] g=.ok true g:=rfl
  have t2:Qf (mOp2 pNe (mOp1 pLen (mVar 0)) (mLit (.int 3))) [some (.tup [.str "shifted",.int f,.int l]),some (.str "same")] g=.ok false g:=rfl
  have t3:Qf (mOp2 pNe (mOp2 pIx (mVar 0) (mLit (.int 0))) (mVar 1)) [some (.tup [.str "shifted",.int f,.int l]),some (.str "same")] g=.ok (!(Str.ofString "shifted" == Str.ofString "same")) g:=rfl
  rw[QnC]at t3
  refine ZL (ift g ?_ rfl)
  rw[Qgc (QiA t1) (Qgc t2 t3)]
  rfl
 refine QJ rfl ?_
 show Yi [some (.ref M),some (.tup [.str "shifted",.int f,.int l]),none] g=_
 unfold Yi
 exact ZL (ift g (QiA (x:=false) (QB (by rw[Qv (ds:=[.tup [.str "shifted",.int f,.int l],.str "same"]) (g':=g) rfl];exact h))) rfl)
theorem Qev{x:D}{g':G}(h:mOrT (Qf (Qr Zv (Qb (mVar 0) (Qb (mVar 1) mNil)))) (Qf (Qr Zw (Qb (mVar 0) (Qb (mVar 1) mNil)))) [some (.ref M),some x] g=.ok true g'):JK [.ref M,x] g=.ok (.bl true) g':=by
 refine QJ rfl ?_
 show Qe6 [some (.ref M),some x] g=_
 unfold Qe6
 exact ZL (ift g' h rfl)
theorem QdC{K:Nat}{f l:Nat}(T:Tb rows n m)(hM:g[M]?=some (Qaj rows))(hfl:f<l)(hl:l<=(runC rows K c0).2)(hK:K<200)(h:Qak rows f l):∃g',JK [.ref M,.tup [.str "same",.int f,.int l]] g=.ok (.bl true) g'/\Keeps [] g g':=by
 have hl2:=JS (rows:=rows) K c0
 obtain⟨b,g',e,k,hb⟩:=QjY (f:=f) T (Qfh hl) hfl (by omega) hM
 rw[hb.mpr h]at e
 refine⟨g',Qev ?_,k⟩
 have t1:Qf (Qr Zv (Qb (mVar 0) (Qb (mVar 1) mNil))) [some (.ref M),some (.tup [.str "same",.int f,.int l])] g=.ok true g':=QB (by rw[Qv (ds:=[.ref M,.tup [.str "same",.int f,.int l]]) (g':=g) rfl];exact e)
 unfold mOrT
 rw[t1,Res.bind_ok]
 rfl
theorem QbC{K:Nat}{f l:Nat}(T:Tb rows n m)(hM:g[M]?=some (Qaj rows))(hfl:f<l)(hl:l<=(runC rows K c0).2)(hK:K<200)(h:Yn rows f l):∃g',JK [.ref M,.tup [.str "shifted",.int f,.int l]] g=.ok (.bl true) g'/\Keeps [] g g':=by
 have hl2:=JS (rows:=rows) K c0
 obtain⟨b,g',e,k,hb⟩:=Qfg (f:=f) T (Qfh hl) hfl (by omega) hM
 rw[hb.mpr h]at e
 refine⟨g',Qev ?_,k⟩
 have t1:Qf (Qr Zv (Qb (mVar 0) (Qb (mVar 1) mNil))) [some (.ref M),some (.tup [.str "shifted",.int f,.int l])] g=.ok false g:=QB (by rw[Qv (ds:=[.ref M,.tup [.str "shifted",.int f,.int l]]) (g':=g) rfl];exact Ql3)
 have t2:Qf (Qr Zw (Qb (mVar 0) (Qb (mVar 1) mNil))) [some (.ref M),some (.tup [.str "shifted",.int f,.int l])] g=.ok true g':=QB (by rw[Qv (ds:=[.ref M,.tup [.str "shifted",.int f,.int l]]) (g':=g) rfl];exact e)
 unfold mOrT
 rw[t1,Res.bind_ok,Uh Ud,t2]
def QiM(M:Nat)(g:G)(x:D):Prop:=x=.non\/((∃xs,x=.tup xs)/\∀g1,Keeps [] g g1->∃g2,JK [.ref M,x] g1=.ok (.bl true) g2/\Keeps [] g1 g2)
theorem QiN{σ:S3}{x y:D}{e:MA}(he:e σ g=.ok [x,y] g)(hc:capt 1 [0] σ=[none,some (.ref M)])(hx:QiM M g x)(hy:QiM M g y):∃g',mOp1 pAll (ZO (QQ (mOpA pTup e)) 1 [0] (gSet 0) (Qf (mOp2 YB (mVar 0) (mLit .non))) (mOp2 pIsB (Qr JK (Qb (mVar 1) (Qb (mVar 0) mNil))) (mLit (.bl true)))) σ g=.ok (.bl true) g'/\Keeps [] g g':=by
 have hit:QQ (mOpA pTup e) σ g=.ok ⟨λ_ i=>some [x,y][i]?,2⟩ g:=by
  unfold QQ
  rw[QaT he (show pTup [x,y] g=.ok (.tup [x,y]) g from rfl),Res.bind_ok]
  rfl
 obtain⟨xs,σ',g2,e1,⟨k,e2⟩,e3,_⟩:=Zy (src:=⟨λ_ i=>some [x,y][i]?,2⟩) (t:=gSet 0) (c:=Qf (mOp2 YB (mVar 0) (mLit .non))) (e:=mOp2 pIsB (Qr JK (Qb (mVar 1) (Qb (mVar 0) mNil))) (mLit (.bl true))) (n:=2)
  (λj σ' g2 acc=>(∃k,acc=List.replicate k (D.bl true))/\Keeps [] g g2/\∃u,σ'=[u,some (.ref M)]) (λj σ' g2 acc hj hQ=>by
   obtain⟨⟨k,q1⟩,q2,u,q3⟩:=hQ
   subst q3
   have hd:∃d,[x,y][j]?=some d/\QiM M g d:=by
    match j,hj with
    |0,_=>exact⟨x,rfl,hx⟩
    |1,_=>exact⟨y,rfl,hy⟩
   obtain⟨d,hd1,hd2⟩:=hd
   rcases hd2 with rfl|⟨⟨xs,rfl⟩,hd2⟩
   ·exact⟨.non,[some .non,some (.ref M)],g2,by show some [x,y][j]?=_;rw[hd1],rfl,.inr ⟨rfl,⟨k,q1⟩,q2,_,rfl⟩⟩
   ·obtain⟨g3,h3,k3⟩:=hd2 g2 q2
    refine⟨.tup xs,[some (.tup xs),some (.ref M)],g2,by show some [x,y][j]?=_;rw[hd1],rfl,.inl ⟨.bl true,g3,rfl,?_,⟨k+1,by rw[q1,Rw]⟩,q2.trans k3,_,rfl⟩⟩
    exact Qn (x:=.bl true) (y:=.bl true) (g1:=g3) (g2:=g3) (by rw[Qv (ds:=[.ref M,.tup xs]) (g':=g2) rfl];exact h3) rfl rfl) (λσ g2 acc _=>rfl) 3 0 [none,some (.ref M)] g [] (by omega) (by omega) ⟨⟨0,rfl⟩,.refl,none,rfl⟩
 have hcm:=JP (n:=1) (cap:=[0]) hit (U3 (JN (show 2<=1000 by decide))) hc e1
 refine⟨g2++[.lst xs],ZW hcm ?_,e3.trans (.push _)⟩
 unfold pAll
 dsimp only
 rw[QD]
 dsimp only
 rw[e2,Qgf]
theorem Ql4{most:Int}(X:Ctx rows n m M r N ds g)(hN:N<=32)(h1:-10<=most)(h2:most<=32):∃g',QbK [.ref M,.ref r,.int most] g=.ok (.bl true) g'/\Keeps [] g g':=by
 obtain⟨x,g1,e1,k1,hx⟩:=QgQ (most:=most) X.tb X.mach (by omega)
 have X1:=X.mono k1
 obtain⟨y,g2,e2,k2,hy⟩:=QdA (most:=most) X1.tb X1.mach (by omega)
 have X2:=X1.mono k2
 obtain⟨x',g3,e3,k3,hx'⟩:=QiK X2 (QiL X2 hN most) hN h1 h2
 have:=hx.uniq hx'
 subst this
 obtain⟨g4,k4,e4⟩:=QcV hx g3
 have X4:=X2.mono (k3.trans k4)
 obtain⟨y',g5,e5,k5,hy'⟩:=QiK X4 (Qet X4 hN most) hN h1 h2
 have:=hy.uniq hy'
 subst this
 obtain⟨g6,k6,e6⟩:=QcV hy g5
 have X6:=X4.mono (k5.trans k6)
 have tx:QiM M g6 x:=by
  rcases hx with⟨f,l,rfl,a1,a2,a3,_⟩|⟨rfl,_⟩
  ·exact .inr ⟨⟨_,rfl⟩,λg7 k7=>QdC X.tb (X6.mono k7).mach a1 a2 (by omega) a3⟩
  ·exact .inl rfl
 have ty:QiM M g6 y:=by
  rcases hy with⟨f,l,rfl,a1,a2,a3,_⟩|⟨rfl,_⟩
  ·exact .inr ⟨⟨_,rfl⟩,λg7 k7=>QbC X.tb (X6.mono k7).mach a1 a2 (by omega) a3⟩
  ·exact .inl rfl
 obtain⟨g7,e7,k7⟩:=QiN (M:=M) (g:=g6) (σ:=[some (.ref M),some (.ref r),some (.int most),some x,some y]) (x:=x) (y:=y) (e:=Qb (mVar 3) (Qb (mVar 4) mNil)) rfl rfl tx ty
 refine⟨g7,QJ rfl ?_,k1.trans (k2.trans (k3.trans (k4.trans (k5.trans (k6.trans k7)))))⟩
 show Qdl [some (.ref M),some (.ref r),some (.int most),none,none] g=_
 unfold Qdl
 have t1:Qf (Qr (Zg 6) (Qb (mVar 3) (Qb (Qr Q2 (Qb (mVar 1) (Qb (mVar 2) (Qb (mLit (.str "same")) mNil)))) mNil))) [some (.ref M),some (.ref r),some (.int most),some x,some y] g2=.ok true g4:=QB (by
  rw[Qv (ds:=[x,x]) (g':=g3) (Qz (g1:=g2) rfl (Qz (g1:=g3) (by rw[Qv (ds:=[.ref r,.int most,.str "same"]) (g':=g2) rfl];exact e3) rfl))]
  exact e4)
 have t2:Qf (Qr (Zg 6) (Qb (mVar 4) (Qb (Qr Q2 (Qb (mVar 1) (Qb (mVar 2) (Qb (mLit (.str "shifted")) mNil)))) mNil))) [some (.ref M),some (.ref r),some (.int most),some x,some y] g4=.ok true g6:=QB (by
  rw[Qv (ds:=[y,y]) (g':=g5) (Qz (g1:=g4) rfl (Qz (g1:=g5) (by rw[Qv (ds:=[.ref r,.int most,.str "shifted"]) (g':=g4) rfl];exact e5) rfl))]
  exact e6)
 refine Qg [some (.ref M),some (.ref r),some (.int most),some x,none] g1 (Qw (by rw[Qv (ds:=[.ref M,.int most]) (g':=g) rfl];exact e1)) ?_
 refine Qg [some (.ref M),some (.ref r),some (.int most),some x,some y] g2 (Qw (by rw[Qv (ds:=[.ref M,.int most]) (g':=g1) rfl];exact e2)) ?_
 refine Qg _ g4 (iff' g4 (Qeh t1) rfl) ?_
 refine Qg _ g6 (iff' g6 (Qeh t2) rfl) ?_
 exact ZE e7
end
theorem law_true(ns:List Int)(hns:ns.length<=63):∃g',QjD [.fl (ns.map .int)] []=.ok (.bl true) g':=by
 obtain⟨rows,n,m,t,g1,k1,e1,kk1,ga1,hk0,hk1,hT,T⟩:=Qdx ns 0 0 [.lst [.int 0]] rfl (Rf _) (by decide)
 have hgood:=entOk.good T.n0 T.m0 T.len T.row T.ent
 obtain⟨g2,k2,e2,hM2⟩:=QlI (.ref t) rows g1 hT.rows (λr hr=>U3 (JN (by rw[T.row r hr];have:=T.m8;omega))) (U3 (JN (by rw[T.len];have:=T.n12;omega))) (λr hr d hd=>(T.ent r hr d hd).thing) (Qb (mVar 2) mNil) [some (.fl (ns.map .int)),some (.ref 0),some (.ref t),none,none,none] g1 rfl
 rw[Uc hgood]at e2
 have hM2:=hM2 hgood
 have ga2:=k2.at' _ _ (by simp) ga1
 have hT2:=hT.b.mono k2 (by simp)
 generalize g1.length=M at e2 hM2 hT2
 -- the shots
 have k3:Keeps [] g2 (g2++[.dct []]):=.push _
 have hS:ShR (g2++[.dct []]) c0 (Qm c0 g2.length) 0:=⟨g2.length,[],rfl,QD _,dok0,Ug _⟩
 obtain⟨r,g4,ds,e4,k4,hr4,hl4,hall⟩:=QlR (b:=0) (x:=Qm c0 g2.length) 32 (by decide) T (Qnw T) (hT2.mono k3 (by simp)).len hS
 have k24:=k3.trans k4
 have ga4:=k24.at' _ _ (by simp) ga2
 have hN:=JS (rows:=rows) 32 c0
 have X4:Ctx rows n m M r (runC rows 32 c0).2 ds g4:=⟨T,k24.at' _ _ (by simp) hM2,hr4,hl4,λi hi=>by obtain⟨y,a,b⟩:=hall i hi;rw[Wo]at b;exact⟨y,a,b⟩,rfl⟩
 generalize (runC rows 32 c0).2=N at X4 hN
 -- the numbers
 obtain⟨q,q0,q1,e5⟩:=Qdo ns 0 k1 g4 ga4 (by omega) (by omega)
 have kk5:Keeps [0] g4 (g4.set 0 (.lst [.int (k1+1)])):=.set _ _
 have X5:Ctx rows n m M r N ds (g4.set 0 (.lst [.int (k1+1)])):=by
  have hne:∀z,z∈[0]->∃ds,g4[z]?=some (.lst ds):=λz hz=>⟨[.int k1],by have:=Uf.mp hz;subst this;exact ga4⟩
  have hMne:M∉[0]:=λz=>by obtain⟨w,hw⟩:=hne _ z;rw[X4.mach]at hw;cases hw
  have hr0:r∉[0]:=λz=>by
   have:=Uf.mp z
   subst this
   have h:=X4.row
   rw[ga4]at h
   cases h
   obtain⟨y,a,d,ks,b,_⟩:=X4.all 0 (TX _)
   cases a
   cases b
  exact⟨X4.tb,kk5.at' _ _ hMne X4.mach,kk5.at' _ _ hr0 X4.row,X4.len,λj hj=>let ⟨y,a,b⟩:=X4.all j hj;⟨y,a,b.mono kk5 hne⟩,X4.run⟩
 generalize g4.set 0 (.lst [.int (k1+1)])=g5 at e5 X5
 have a0:=Te q (show(33:Int)≠0 by decide)
 have a1:=UX q (show(0:Int)<33 by decide)
 have e6:mOp2 pSub (mOp2 pMod (Qr YV (Qb (mVar 0) (Qb (mVar 1) mNil))) (mLit (.int 33))) (mLit (.int 2)) [some (.fl (ns.map .int)),some (.ref 0),some (.ref t),some (.ref M),some (.ref r),none] g4=.ok (.int (q%33-2)) g5 :=
  Qn (x:=.int (q%33)) (y:=.int 2) (g1:=g5) (g2:=g5) (Qn (x:=.int q) (y:=.int 33) (g1:=g5) (g2:=g5) (by rw[Qv (ds:=[.fl (ns.map .int),.ref 0]) (g':=g4) rfl];exact e5) rfl (modP (by decide))) rfl rfl
 generalize hw:q%33-2=w at e6
 have b0:=Te w (show(5:Int)≠0 by decide)
 have b1:=UX w (show(0:Int)<5 by decide)
 have he:(Qb (mVar 5) (Qb (mOp2 pSub (mLit (.int 30)) (mOp2 pMod (mVar 5) (mLit (.int 5)))) mNil)) [some (.fl (ns.map .int)),some (.ref 0),some (.ref t),some (.ref M),some (.ref r),some (.int w)] g5=.ok [.int w,.int (30-w%5)] g5 :=
  Qz (g1:=g5) rfl (Qz (g1:=g5) (Qn (x:=.int 30) (y:=.int (w%5)) (g1:=g5) (g2:=g5) rfl (Qn (x:=.int w) (y:=.int 5) (g1:=g5) (g2:=g5) rfl rfl (modP (by decide))) rfl) rfl)
 have hit:QQ (mOpA pTup (Qb (mVar 5) (Qb (mOp2 pSub (mLit (.int 30)) (mOp2 pMod (mVar 5) (mLit (.int 5)))) mNil))) [some (.fl (ns.map .int)),some (.ref 0),some (.ref t),some (.ref M),some (.ref r),some (.int w)] g5=.ok ⟨λ_ i=>some [D.int w,D.int (30-w%5)][i]?,2⟩ g5:=by
  unfold QQ
  rw[QaT he (show pTup [.int w,.int (30-w%5)] g5=.ok (.tup [.int w,.int (30-w%5)]) g5 from rfl),Res.bind_ok]
  rfl
 obtain⟨xs,σ',g6,c1,c2,c3,_⟩:=Zy (src:=⟨λ_ i=>some [D.int w,D.int (30-w%5)][i]?,2⟩) (t:=gSet 0) (c:=Yf) (e:=Qr QbK (Qb (mVar 1) (Qb (mVar 2) (Qb (mVar 0) mNil)))) (n:=2)
  (λj σ' g6 acc=>acc=List.replicate j (D.bl true)/\Keeps [] g5 g6/\∃u,σ'=[u,some (.ref M),some (.ref r)]) (λj σ' g6 acc hj hQ=>by
   obtain⟨q1,q2,u,q3⟩:=hQ
   subst q3
   have hd:∃v:Int,[D.int w,D.int (30-w%5)][j]?=some (.int v) /\ -10<=v/\v<=32:=by
    match j,hj with
    |0,_=>exact⟨w,rfl,by omega,by omega⟩
    |1,_=>exact⟨30-w%5,rfl,by omega,by omega⟩
   obtain⟨v,hv,v1,v2⟩:=hd
   obtain⟨g7,e7,k7⟩:=Ql4 (X5.mono q2) hN v1 v2
   refine⟨.int v,[some (.int v),some (.ref M),some (.ref r)],g6,by show some [D.int w,D.int (30-w%5)][j]?=_;rw[hv],rfl,.inl ⟨.bl true,g7,rfl,?_,by rw[q1,Rw],q2.trans k7,_,rfl⟩⟩
   rw[Qv (ds:=[.ref M,.ref r,.int v]) (g':=g6) rfl]
   exact e7) (λσ g6 acc _=>rfl) 3 0 [none,some (.ref M),some (.ref r)] g5 [] (by omega) (by omega) ⟨rfl,.refl,none,rfl⟩
 have hcm:=JP (n:=1) (cap:=[3,4]) hit (U3 (JN (show 2<=1000 by decide))) rfl c1
 refine⟨g6++[.lst xs],QJ rfl ?_⟩
 show QlB [some (.fl (ns.map .int)),none,none,none,none,none] []=_
 unfold QlB
 refine Qg [some (.fl (ns.map .int)),some (.ref 0),none,none,none,none] [.lst [.int 0]] (Qw (by simp[mOpA,Qb,mLit,mNil,Res.bind,newL,SZ])) ?_
 refine Qg [some (.fl (ns.map .int)),some (.ref 0),some (.ref t),none,none,none] g1 (Qw (by rw[Qv (ds:=[.fl (ns.map .int),.ref 0]) (g':=[.lst [.int 0]]) rfl];exact e1)) ?_
 refine Qg [some (.fl (ns.map .int)),some (.ref 0),some (.ref t),some (.ref M),none,none] g2 (Qw e2) ?_
 refine Qg [some (.fl (ns.map .int)),some (.ref 0),some (.ref t),some (.ref M),some (.ref r),none] g4 (Qw (by rw[Qv (ds:=[.ref t,Qm c0 g2.length,.int ((32:Nat):Int)]) (g':=g2++[.dct []]) rfl];exact e4)) ?_
 refine Qg [some (.fl (ns.map .int)),some (.ref 0),some (.ref t),some (.ref M),some (.ref r),some (.int w)] g5 (Qw e6) ?_
 refine ZE (ZW hcm ?_)
 unfold pAll
 dsimp only
 rw[QD]
 dsimp only
 rw[c2,Qgf]
end L3
namespace V
open PySem PySem.Spec PyProof.Rows L2 L3
theorem Zo{N P:List Str}{sc:Scope}(h1:sc.kind=.function:=by rfl)(h2:sc.isCoroutine=false:=by rfl)(h3:sc.isGenerator=false:=by rfl)(h4:N.Nodup:=by decide +kernel)(h5:N.take P.length=P:=by rfl)(h6:∀x∈P,sc.names.lookup x=some .local\/sc.names.lookup x=some .cell:=by decide +kernel)(h7:∀y∈sc.names,y.2≠.free:=by decide +kernel):FnScope N P sc:=⟨h1,h2,h3,h4,h5,h6,h7⟩
noncomputable def top(i:Nat):Stmt:=PySem.Challenge.pw_tapeproof_k60_least_rounds.main.body.getD i (.Pass ⟨0,0,0,0⟩)
noncomputable abbrev Qbh:Stmt:=top 7
abbrev QgS:List Str:=["value"]
theorem Qfk:FnScope QgS ["value"] (Qd Qbh):=Zo
noncomputable abbrev Qbi:Stmt:=top 8
abbrev QgT:List Str:=["value", "many"]
theorem Qfl:FnScope QgT ["value", "many"] (Qd Qbi):=Zo
noncomputable abbrev Qbj:Stmt:=top 15
abbrev QgU:List Str:=["thing", "states", "signs"]
theorem Qfm:FnScope QgU ["thing", "states", "signs"] (Qd Qbj):=Zo
noncomputable abbrev YY:Stmt:=top 16
abbrev Qbs:List Str:=["rows", "states", "signs", "row"]
theorem Yt:FnScope Qbs ["rows"] (Qd YY):=Zo
noncomputable abbrev Q4:Stmt:=Y1 (top 17) 0
abbrev Qao:List Str:=["self", "table", "rows"]
theorem JV:FnScope Qao ["self", "table"] (Qd Q4):=Zo
noncomputable abbrev JW:Stmt:=top 107
abbrev Qck:List Str:=["_law_shots", "_law_first", "_law_later", "_law_one", "_law_other", "_law_places", "_law_low", "_law_high", "_law_gone", "_law_spot", "_law_within"]
theorem Yb:FnScope Qck ["_law_shots", "_law_first", "_law_later"] (Qd JW):=Zo
noncomputable abbrev QbO:Stmt:=top 104
abbrev Qgg:List Str:=["_law_shot_here", "_law_state", "_law_place", "_law_cells"]
theorem QaW:FnScope Qgg ["_law_shot_here"] (Qd QbO):=Zo
noncomputable abbrev Y9:Stmt:=top 108
abbrev QcI:List Str:=["_law_shots", "_law_most", "_law_kind", "_law_later", "_law_first"]
theorem YL:FnScope QcI ["_law_shots", "_law_most", "_law_kind"] (Qd Y9):=Zo
noncomputable abbrev QbP:Stmt:=top 101
abbrev Qgh:List Str:=["_law_found", "_law_due"]
theorem QiO:FnScope Qgh ["_law_found", "_law_due"] (Qd QbP):=Zo
noncomputable abbrev ZA:Stmt:=Y1 (top 22) 0
abbrev Qax:List Str:=["self", "machine", "shot"]
theorem Qew:FnScope Qax ["self", "machine", "shot"] (Qd ZA):=Zo
noncomputable abbrev Yc:Stmt:=Y1 (top 22) 8
abbrev Qfn:List Str:=["self"]
theorem Qex:FnScope Qfn ["self"] (Qd Yc):=Zo
noncomputable abbrev QV:Stmt:=Y1 (top 22) 1
abbrev Qbk:List Str:=["self"]
theorem QaX:FnScope Qbk ["self"] (Qd QV):=Zo
noncomputable abbrev ZX:Stmt:=Y1 (top 22) 2
abbrev Qey:List Str:=["self", "sign"]
theorem QaY:FnScope Qey ["self"] (Qd ZX):=Zo
noncomputable abbrev Zj:Stmt:=Y1 (top 22) 5
abbrev QcJ:List Str:=["self"]
theorem Qcl:FnScope QcJ ["self"] (Qd Zj):=Zo
noncomputable abbrev Ze:Stmt:=Y1 (top 22) 4
abbrev Qcm:List Str:=["self"]
theorem QbD:FnScope Qcm ["self"] (Qd Ze):=Zo
noncomputable abbrev ZY:Stmt:=Y1 (top 22) 3
abbrev Qez:List Str:=["self", "sign"]
theorem QdD:FnScope Qez ["self", "sign"] (Qd ZY):=Zo
noncomputable abbrev Zl:Stmt:=Y1 (top 22) 6
abbrev QcK:List Str:=["self", "entry"]
theorem JX:FnScope QcK ["self"] (Qd Zl):=Zo
noncomputable abbrev Qfo:Stmt:=top 23
abbrev Ql5:List Str:=["machine", "steps", "walk", "shots"]
theorem QdE:FnScope Ql5 ["machine", "steps"] (Qd Qfo):=Zo
noncomputable abbrev Qcn:Stmt:=top 35
abbrev QiP:List Str:=["machine", "most", "met", "later", "shot"]
theorem Qag:FnScope QiP ["machine", "most"] (Qd Qcn):=Zo
noncomputable abbrev YZ:Stmt:=top 29
abbrev Qbt:List Str:=["shot", "low"]
theorem QdF:FnScope Qbt ["shot", "low"] (Qd YZ):=Zo
noncomputable abbrev Yu:Stmt:=top 30
abbrev QaZ:List Str:=["shot", "high"]
theorem QcL:FnScope QaZ ["shot", "high"] (Qd Yu):=Zo
noncomputable abbrev JY:Stmt:=top 32
abbrev QeA:List Str:=["begun", "ended", "low", "high"]
theorem QdG:FnScope QeA ["begun", "ended", "low", "high"] (Qd JY):=Zo
noncomputable abbrev YM:Stmt:=top 36
abbrev Qco:List Str:=["shots", "later", "ended", "least", "greatest", "found", "first", "begun"]
theorem QA:FnScope Qco ["shots", "later"] (Qd YM):=Zo
noncomputable abbrev JZ:Stmt:=top 37
abbrev QeB:List Str:=["machine", "most", "shots", "later", "first"]
theorem Yv:FnScope QeB ["machine", "most"] (Qd JZ):=Zo
noncomputable abbrev Qbl:Stmt:=top 27
abbrev QgV:List Str:=["paper", "kind"]
theorem Qfp:FnScope QgV ["paper", "kind"] (Qd Qbl):=Zo
noncomputable abbrev Yz:Stmt:=Y1 (top 22) 7
abbrev QgW:List Str:=["self", "steps", "done"]
theorem Qay:FnScope QgW ["self", "steps"] (Qd Yz):=Zo
noncomputable abbrev Qbm:Stmt:=top 28
abbrev QgX:List Str:=["machine", "first", "later", "walk", "begun", "least", "greatest", "step"]
theorem ZB:FnScope QgX ["machine", "first", "later"] (Qd Qbm):=Zo
noncomputable abbrev J0:Stmt:=top 31
abbrev QeC:List Str:=["machine", "paper", "walked"]
theorem Qa0:FnScope QeC ["machine", "paper"] (Qd J0):=Zo
noncomputable abbrev YN:Stmt:=top 33
abbrev Qcp:List Str:=["machine", "paper", "walked"]
theorem Ju:FnScope Qcp ["machine", "paper"] (Qd YN):=Zo
noncomputable abbrev Qfq:Stmt:=top 98
abbrev Ql6:List Str:=["machine", "paper"]
theorem Qkb:FnScope Ql6 ["machine", "paper"] (Qd Qfq):=Zo
noncomputable abbrev QbQ:Stmt:=top 109
abbrev Qgi:List Str:=["_law_machine", "_law_shots", "_law_most", "_law_same_here", "_law_shifted"]
theorem Qcq:FnScope Qgi ["_law_machine", "_law_shots", "_law_most"] (Qd QbQ):=Zo
noncomputable abbrev QdH:Stmt:=top 100
abbrev Qkc:List Str:=["_law_script", "_law_at", "_law_cell", "_law_m"]
theorem Qcr:FnScope Qkc ["_law_script", "_law_at"] (Qd QdH):=Zo
noncomputable abbrev Qcs:Stmt:=top 102
abbrev QiQ:List Str:=["_law_script", "_law_at", "_law_states", "_law_signs", "_law_table_here", "_law_k", "_law_line", "_law_j", "_law_m", "_law_entry"]
theorem ZZ:FnScope QiQ ["_law_script", "_law_at", "_law_states", "_law_signs"] (Qd Qcs):=Zo
noncomputable abbrev Ja:Stmt:=top 106
abbrev QcM:List Str:=["_law_script", "_law_at", "_law_m", "_law_states", "_law_signs", "_law_table_here", "_law_k", "_law_j"]
theorem QC:FnScope QcM ["_law_script", "_law_at"] (Qd Ja):=Zo
noncomputable abbrev QdI:Stmt:=top 103
abbrev Qkd:List Str:=["_law_table_here", "_law_shot_here", "_law_state", "_law_place", "_law_cells", "_law_entry", "_law_made"]
theorem Jo:FnScope Qkd ["_law_table_here", "_law_shot_here"] (Qd QdI):=Zo
noncomputable abbrev Qfr:Stmt:=top 105
abbrev Ql7:List Str:=["_law_table_here", "_law_shot_here", "_law_steps", "_law_row"]
theorem QdJ:FnScope Ql7 ["_law_table_here", "_law_shot_here", "_law_steps"] (Qd Qfr):=Zo
noncomputable abbrev QiR:Stmt:=top 110
abbrev QnE:List Str:=["_law_script", "_law_at", "_law_table_here", "_law_machine", "_law_shots", "_law_most"]
theorem QcW:FnScope QnE ["_law_script"] (Qd QiR):=Zo
def UF(K:Frag)(mg:Str->Option Value)(x:Str)(st:Stmt):Prop:=∃f fd,Fun K x x st f fd/\mg x=some (.ref f)
theorem _root_.L2.Room.m{j k:Nat}{A:Around}(h:Room k A)(e:j<=k:=by omega):Room j A:=h.mono e
theorem Yl{P:Program}{w:World}{K:Frag}{mg:Str->Option Value}{base:Heap}{ca:Nat->Addr}{x:Str}{st:Stmt}{N ps:List Str}{k n j:Nat}{m:MS}(u:UF K mg x st)(S:FnScope N ps (Qd st))(h:∀(f:Addr) (cdv:Value) (A:Around) (outer:List Env) (s:Shared) (H:Hp) (E:XK),Room k (A.deeper (envOfC x (Qd st) s.heap.objs.size f cdv))->PSs3 ca (cxOf (CXW P w ca) P w K mg base N x (Qd st) f cdv A outer s H E) (Q6 st) m)(hj:ps.length=j:=by rfl)(hn:N.length-ps.length=n:=by rfl)(hb:∀(kV doc pm:Value) (an:Option Addr) (cdv ct:Value) (us:List Value),us.length=ps.length->bindArgs (fnOf x x (Zq st) (Q6 st) (Qd st) .none kV doc pm an cdv ct) ⟨us,[]⟩=pure (ps.zip us):=by intro _ _ _ _ _ _ us hl;first|(obtain⟨_,rfl⟩:=L3.len1 hl;rfl)|(obtain⟨_,_,rfl⟩:=L3.len2 hl;rfl)|(obtain⟨_,_,_,rfl⟩:=L3.len3 hl;rfl)|(obtain⟨_,_,_,_,rfl⟩:=L3.len4 hl;rfl)):FnH P w K mg base ca x (k+1) j (mDef j n m):=by
 obtain⟨f,fd,F,hm⟩:=u
 exact⟨⟨f,fd,ps,Qa4 F S hj hn (h f),hm,F.kp,F.binds hb⟩,Yk _ _ _⟩
structure Zk(K:Frag)(mg:Str->Option Value)(ca:Nat->Addr):Prop where
 z_all:mg "all" = none
 z_bool:mg "bool" = none
 z_dict:mg "dict" = none
 z_enumerate:mg "enumerate" = none
 z_int:mg "int" = none
 z_isinstance:mg "isinstance" = none
 z_len:mg "len" = none
 z_list:mg "list" = none
 z_max:mg "max" = none
 z_min:mg "min" = none
 z_range:mg "range" = none
 z_reversed:mg "reversed" = none
 z_sorted:mg "sorted" = none
 z_str:mg "str" = none
 z_tuple:mg "tuple" = none
 z_zip:mg "zip" = none
 g_BLANK:∃k,mg "BLANK" = some (.int 0 k)
 g_FIRST_SHOT:∃u v,mg "FIRST_SHOT" = some u/\L2.RelV v u/\∀μ H,Den K μ H v (.tup [(.int 0),(.int 0),(.tup [])])
 g_LEFT:∃k,mg "LEFT" = some (.str "l" k)
 g_RIGHT:∃k,mg "RIGHT" = some (.str "r" k)
 g_SAME:∃k,mg "SAME" = some (.str "same" k)
 g_SHIFTED:∃k,mg "SHIFTED" = some (.str "shifted" k)
 a_left_marks:FldOk K ca [12] "left_marks"
 a_place:FldOk K ca [12] "place"
 a_right_marks:FldOk K ca [12] "right_marks"
 a_state:FldOk K ca [12] "state"
 a_table:FldOk K ca [11,12] "table"
 u0:UF K mg "is_whole" Qbh
 u1:UF K mg "is_below" Qbi
 u2:UF K mg "is_entry" Qbj
 u3:UF K mg "check_rows" YY
 u4:∃f fd,Fun K "__init__" "Machine.__init__" Q4 f fd/\Mk K (ca 11) f/\mg "Machine" = some (.ref (ca 11))
 u5:UF K mg "_law_alike" JW
 u6:UF K mg "_law_shot" QbO
 u7:UF K mg "_law_first_pair" Y9
 u8:UF K mg "_law_same" QbP
 u9:∃f fd,Fun K "__init__" "Walk.__init__" ZA f fd/\Mk K (ca 12) f/\mg "Walk" = some (.ref (ca 12))
 u10:∃f fd,Fun K "shot" "Walk.shot" Yc f fd/\Meth K (ca 12) "shot" f/\Cls K (ca 12)
 u11:∃f fd,Fun K "is_on_mark" "Walk.is_on_mark" QV f fd/\Meth K (ca 12) "is_on_mark" f/\Cls K (ca 12)
 u12:∃f fd,Fun K "entry" "Walk.entry" ZX f fd/\Meth K (ca 12) "entry" f/\Cls K (ca 12)
 u13:∃f fd,Fun K "go_left" "Walk.go_left" Zj f fd/\Meth K (ca 12) "go_left" f/\Cls K (ca 12)
 u14:∃f fd,Fun K "go_right" "Walk.go_right" Ze f fd/\Meth K (ca 12) "go_right" f/\Cls K (ca 12)
 u15:∃f fd,Fun K "write" "Walk.write" ZY f fd/\Meth K (ca 12) "write" f/\Cls K (ca 12)
 u16:∃f fd,Fun K "stepped" "Walk.stepped" Zl f fd/\Meth K (ca 12) "stepped" f/\Cls K (ca 12)
 u17:UF K mg "trail" Qfo
 u18:UF K mg "same_of" Qcn
 u19:UF K mg "marks_from" YZ
 u20:UF K mg "marks_up_to" Yu
 u21:UF K mg "is_shifted" JY
 u22:UF K mg "first_shifted" YM
 u23:UF K mg "shifted_of" JZ
 u24:UF K mg "is_paper" Qbl
 u25:∃f fd,Fun K "run" "Walk.run" Yz f fd/\Meth K (ca 12) "run" f/\Cls K (ca 12)
 u26:UF K mg "round_of" Qbm
 u27:UF K mg "takes_same" J0
 u28:UF K mg "takes_shifted" YN
 u29:UF K mg "takes" Qfq
 u30:UF K mg "_law_fits" QbQ
 u31:UF K mg "_law_next" QdH
 u32:UF K mg "_law_table" Qcs
 u33:UF K mg "_law_machine_by" Ja
 u34:UF K mg "_law_step" QdI
 u35:UF K mg "_law_run" Qfr
 u36:UF K mg "law" QiR
section
seal PE3 PT3 PW3 PA3 PS3 PSs3 PG3 PI3
variable{P:Program}{w:World}{K:Frag}{mg:Str->Option Value}{base:Heap}{ca:Nat->Addr}
theorem Qct(Z:Zk K mg ca):FnH P w K mg base ca "is_whole" 1 1 Yx:=Yl Z.u0 Qfk λ_ _ _ _ _ _ _ hr=>(Qj (QL (Qbw (YR .int Z.z_isinstance Z.z_int Qkw (Qa 0)) (QcD (QmS (YR .bool Z.z_isinstance Z.z_bool QhT (Qa 0)))))))
theorem Qaz(Z:Zk K mg ca):FnH P w K mg base ca "is_below" 2 2 Zi:=Yl Z.u1 Qfl λ_ _ _ _ _ _ _ hr=>(Qj (QL (Qbw (QE (Qct Z) hr.m (Qe (Qa 0) Qp)) (QcD (Qm3 Qh (Qa 0) (Qa 1))))))
theorem Qfs(Z:Zk K mg ca):FnH P w K mg base ca "is_entry" 3 3 Yy:=Yl Z.u2 Qfm λ_ _ _ _ _ _ _ hr=>(Qc (r_if (Qgv (Qa 0) Jc) (Qj (QL r_bl)) QG)
 (Qc (r_if (r_w (Qd1 (Qbp (ZI (YR .tuple Z.z_isinstance Z.z_tuple QaL (Qa 0)))) (QbX (QcE hr (Qah Z.z_len (Qa 0)) Qh)))) (Qj (QL r_bl)) QG)
 (Qj (QL (Qbw (QE (Qaz Z) hr.m (Qe (Qi (Qa 0) Qh) (Qe (Qa 2) Qp))) (Qbw (r_in (Qi (Qa 0) Qh) (YC (Qe (Qb2 Z.g_LEFT) (Qe (Qb2 Z.g_RIGHT) Qp)))) (QcD (QE (Qaz Z) hr.m (Qe (Qi (Qa 0) Qh) (Qe (Qa 1) Qp))))))))))
theorem QdK(Z:Zk K mg ca):FnH P w K mg base ca "check_rows" 4 1 ZT:=Yl Z.u3 Yt λ_ _ _ _ _ _ _ hr=>(Qc (r_if (QaJ hr (Qah Z.z_len (Qa 0)) Qh) (Qj QbY) QG)
 (Qc (QO 1 Yt.nd (Qah Z.z_len (Qa 0)))
 (Qc (QO 2 Yt.nd (Qah Z.z_len (Qi (Qa 0) Qh)))
 (Qc (r_if (QaJ hr (Qa 2) Qh) (Qj QbY) QG)
 (Qj (Qbx rfl (YD (Qa 0)) (QK 3 Yt.nd) (Qc (r_if (QcE hr (Qah Z.z_len (Qa 3)) (Qa 2)) (Qj QbY) QG)
 (Qj (r_if (Qbp (ZI (Qjg rfl Z.z_all (JD (Zh (Nb:=["thing", "states", "signs"]) (no:=1) (cap:=[1,2]) (N:=Qbs) (sc:=Qd YY) rfl rfl (by decide +kernel)) rfl (YD (Qa 3)) (λcl C s3 H3 ex=>⟨(QK 0 (show List.Nodup (["thing", "states", "signs"]:List Str) by decide +kernel)),QeS,(QE (Qfs Z) hr.m (Qe (Qa 0) (Qe (Qa 1) (Qe (Qa 2) Qp))))⟩))))) (Qj QbY) QG)))))))))
theorem Qcu(Z:Zk K mg ca):MkH P w K mg base ca 11 "Machine" 5 2 ZJ:=by
 obtain⟨f,fd,F,hm⟩:=Z.u4
 exact⟨⟨f,fd,["self", "table"],Qa4 F JV rfl rfl (λcdv A outer s H E hr=>(Qc (QO 2 JV.nd (Qda Z.z_tuple (JD (Zh (Nb:=["row"]) (no:=1) (cap:=[]) (N:=Qao) (sc:=Qd Q4) rfl rfl (by decide +kernel)) rfl (YD (Qa 1)) (λcl C s3 H3 ex=>⟨(QK 0 (show List.Nodup (["row"]:List Str) by decide +kernel)),QeS,(Qda Z.z_tuple (Qa 0))⟩))))
 (Qc (Jd (QE (QdK Z) hr.m (Qe (Qa 2) Qp)))
 (Qj (Z0 (Qa 0) (Qa 2) Z.a_table))))),hm.1,hm.2,F.binds (ps:=["self", "table"]) (λ_ _ _ _ _ _ us hl=>by obtain⟨_,_,rfl⟩:=L3.len2 hl;rfl)⟩,Yk _ _ _⟩
theorem QgY(Z:Zk K mg ca):FnH P w K mg base ca "_law_alike" 1 3 Jg:=Yl Z.u5 Yb λ_ _ _ _ _ _ _ hr=>(Qc (Qnm 3 4 rfl Yb.nd (Qe (Qi (Qa 0) (Qa 1)) (Qe (Qi (Qa 0) (Qa 2)) Qp)))
 (Qc (r_if (r_w (Qd1 (QcE hr (Qi (Qa 3) Qh) (Qi (Qa 4) Qh)) (QbX (QaJ hr (Qi (Qa 3) Qh) (Qi (Qa 4) Qh))))) (Qj (QL r_bl)) QG)
 (Qc (QhG 5 Yb.nd (Zh (Nb:=["_law_shot_here"]) (no:=1) (cap:=[]) (N:=Qck) (sc:=Qd JW) rfl rfl (by decide +kernel)) rfl (YD (Qln (Qa 0) (Qku (Qa 1)) (Qku (Qb0 (Qa 2) Qh)))) (λcl C s3 H3 ex=>⟨(QK 0 (show List.Nodup (["_law_shot_here"]:List Str) by decide +kernel)),QeS,(Qi (Qa 0) Qh)⟩))
 (Qc (Qnm 6 7 rfl Yb.nd (Qe (Qnf rfl Z.z_min (Qa 5)) (Qe (Qng rfl Z.z_max (Qa 5)) Qp)))
 (Qc (QO 8 Yb.nd (Qaq (Qi (Qa 4) Qh) (Qi (Qa 3) Qh)))
 (Qc (Qbx rfl (YD (Qb0 (QkC rfl Z.z_list (Qi (Qa 3) Qh)) (QlA (JD (Zh (Nb:=["_law_spot", "_law_gone"]) (no:=1) (cap:=[8]) (N:=Qck) (sc:=Qd JW) rfl rfl (by decide +kernel)) rfl (QjC (Qi (Qa 4) Qh)) (λcl C s3 H3 ex=>⟨(QK 0 (show List.Nodup (["_law_spot", "_law_gone"]:List Str) by decide +kernel)),QeS,(Qaq (Qa 0) (Qa 1))⟩))))) (QK 9 Yb.nd) (Qc (QO 10 Yb.nd (Qla (Qjd (Qa 8) Qh) (r_ge (Qa 9) (Qa 6)) (r_le (Qa 9) (Qa 7))))
 (Qj (r_if (r_w (Qbq (ZI (Qa 10)) (Jz (QcE hr (QeZ (Qi (Qa 3) Qh) (Qa 9) Qh) (QeZ (Qi (Qa 4) Qh) (Qb0 (Qa 9) (Qa 8)) Qh))))) (Qj (QL r_bl)) QG))))
 (Qj (QL r_bl))))))))
theorem QeD(Z:Zk K mg ca):FnH P w K mg base ca "_law_shot" 1 1 J8:=Yl Z.u6 QaW λ_ _ _ _ _ _ _ hr=>(Qc (Qlb (Qa 0) (QaE rfl (Q9 (QK 1 QaW.nd) (Q9 (QK 2 QaW.nd) (Q9 (QK 3 QaW.nd) QaD)))))
 (Qj (QL (YC (Qe (Qa 1) (Qe (Qa 2) (Qe (Qda Z.z_tuple (JD (Zh (Nb:=["_law_spot", "_law_cells"]) (no:=1) (cap:=[3]) (N:=Qgg) (sc:=Qd QbO) rfl rfl (by decide +kernel)) rfl (YD (Qji Z.z_sorted (QkC rfl Z.z_list (Qa 3)))) (λcl C s3 H3 ex=>⟨(QK 0 (show List.Nodup (["_law_spot", "_law_cells"]:List Str) by decide +kernel)),QeS,(YC (Qe (Qa 0) (Qe (Qn7 (Qa 1) (Qa 0)) Qp)))⟩))) Qp)))))))
theorem J4(Z:Zk K mg ca):FnH P w K mg base ca "_law_first_pair" 2 3 Q2:=Yl Z.u7 YL λ_ _ _ _ _ _ _ hr=>(Qc (Qbx rfl (Qc6 Z.z_range Qh (Qh7 rfl Z.z_min (Qah Z.z_len (Qa 0)) (Qb0 (Qa 1) Qh))) (QK 3 YL.nd) (Qj (Qbx rfl (QaF Z.z_range (Qa 3)) (QK 4 YL.nd) (Qc (r_if (r_w (Qbq (QaJ hr (Qa 2) QeO) (Jz (QaJ hr (QE (QeD Z) hr.m (Qe (Qi (Qa 0) (Qa 4)) Qp)) (QE (QeD Z) hr.m (Qe (Qi (Qa 0) (Qa 3)) Qp)))))) (Qj (QL (YC (Qe (Qa 2) (Qe (Qa 4) (Qe (Qa 3) Qp)))))) QG)
 (Qj (r_if (r_w (Qbq (QaJ hr (Qa 2) QeO) (Jz (ZI (QE (QgY Z) hr.m (Qe (Qa 0) (Qe (Qa 4) (Qe (Qa 3) Qp)))))))) (Qj (QL (YC (Qe (Qa 2) (Qe (Qa 4) (Qe (Qa 3) Qp)))))) QG))))))
 (Qj (QL Jc)))
theorem Qcv(Z:Zk K mg ca):∀n:Nat,FnH P w K mg base ca "_law_same" (1+n) 2 (Zg n)
 |0=>by
  obtain⟨f,fd,F,hm⟩:=Z.u8
  exact⟨⟨f,fd,["_law_found", "_law_due"],Qlo rfl,hm,F.kp,F.binds (ps:=["_law_found", "_law_due"]) (λ_ _ _ _ _ _ us hl=>by obtain⟨_,_,rfl⟩:=L3.len2 hl;rfl)⟩,λ_ _ _=>rfl⟩
 |n+1=>by
  have ih:=Qcv Z n
  obtain⟨f,fd,F,hm⟩:=Z.u8
  exact⟨⟨f,fd,["_law_found", "_law_due"],Qa4 F QiO rfl rfl (λcdv A outer s H E hr=>(Qc (r_if (r_w (Qd1 (ZI (YR .list Z.z_isinstance Z.z_list QeT (Qa 1))) (QbX (ZI (YR .tuple Z.z_isinstance Z.z_tuple QaL (Qa 1)))))) (Qc (r_if (r_w (Qd1 (QcE hr (YR .list Z.z_isinstance Z.z_list QeT (Qa 0)) (YR .list Z.z_isinstance Z.z_list QeT (Qa 1))) (QbX (QcE hr (YR .tuple Z.z_isinstance Z.z_tuple QaL (Qa 0)) (YR .tuple Z.z_isinstance Z.z_tuple QaL (Qa 1)))))) (Qj (QL r_bl)) QG)
 (Qj (QL (Qbw (r_eq hr (Qah Z.z_len (Qa 0)) (Qah Z.z_len (Qa 1))) (QcD (Qjg rfl Z.z_all (JD (Zh (Nb:=["_law_a", "_law_b"]) (no:=2) (cap:=[]) (N:=Qgh) (sc:=Qd QbP) rfl rfl (by decide +kernel)) rfl (Qn3 Z.z_zip (Qa 0) (Qa 1)) (λcl C s3 H3 ex=>⟨(QaE rfl (Q9 (QK 0 (show List.Nodup (["_law_a", "_law_b"]:List Str) by decide +kernel)) (Q9 (QK 1 (show List.Nodup (["_law_a", "_law_b"]:List Str) by decide +kernel)) QaD))),QeS,(QE ih hr (Qe (Qa 0) (Qe (Qa 1) Qp)))⟩)))))))) QG)
 (Qc (r_if (Qgv (Qa 1) Jc) (Qj (QL (r_is (Qa 0) Jc))) QG)
 (Qc (r_if (ZI (YR .str Z.z_isinstance Z.z_str Qkx (Qa 1))) (Qj (QL (Qbw (YR .str Z.z_isinstance Z.z_str Qkx (Qa 0)) (QcD (r_eq hr (Qa 0) (Qa 1)))))) QG)
 (Qj (QL (Qbw (YR .int Z.z_isinstance Z.z_int Qkw (Qa 0)) (Qbw (QmS (YR .bool Z.z_isinstance Z.z_bool QhT (Qa 0))) (QcD (r_eq hr (Qa 0) (Qa 1))))))))))),hm,F.kp,F.binds (ps:=["_law_found", "_law_due"]) (λ_ _ _ _ _ _ us hl=>by obtain⟨_,_,rfl⟩:=L3.len2 hl;rfl)⟩,Yk _ _ _⟩
theorem Qbu(Z:Zk K mg ca):MkH P w K mg base ca 12 "Walk" 1 3 YE:=by
 obtain⟨f,fd,F,hm⟩:=Z.u9
 exact⟨⟨f,fd,["self", "machine", "shot"],Qa4 F Qew rfl rfl (λcdv A outer s H E hr=>(Qc (Z0 (Qa 0) (Za (Qa 1) Z.a_table) Z.a_table)
 (Qc (Z0 (Qa 0) (Qi (Qa 2) Qh) Z.a_state)
 (Qc (Z0 (Qa 0) (Qi (Qa 2) Qh) Z.a_place)
 (Qc (Z0 (Qa 0) (JD (Zh (Nb:=["place", "sign", "self"]) (no:=2) (cap:=[0]) (N:=Qax) (sc:=Qd ZA) rfl rfl (by decide +kernel)) rfl (YD (Qi (Qa 2) Qh)) (λcl C s3 H3 ex=>⟨(QaE rfl (Q9 (QK 0 (show List.Nodup (["place", "sign", "self"]:List Str) by decide +kernel)) (Q9 (QK 1 (show List.Nodup (["place", "sign", "self"]:List Str) by decide +kernel)) QaD))),(QhF (Qjc (Qa 0) (Za (Qa 2) Z.a_place))),(YC (Qe (Qa 0) (Qe (Qa 1) Qp)))⟩)) Z.a_left_marks)
 (Qj (Z0 (Qa 0) (JD (Zh (Nb:=["place", "sign", "self"]) (no:=2) (cap:=[0]) (N:=Qax) (sc:=Qd ZA) rfl rfl (by decide +kernel)) rfl (Qlr Z.z_reversed (Qi (Qa 2) Qh)) (λcl C s3 H3 ex=>⟨(QaE rfl (Q9 (QK 0 (show List.Nodup (["place", "sign", "self"]:List Str) by decide +kernel)) (Q9 (QK 1 (show List.Nodup (["place", "sign", "self"]:List Str) by decide +kernel)) QaD))),(QhF (QmZ (Qa 0) (Za (Qa 2) Z.a_place))),(YC (Qe (Qa 0) (Qe (Qa 1) Qp)))⟩)) Z.a_right_marks))))))),hm.1,hm.2,F.binds (ps:=["self", "machine", "shot"]) (λ_ _ _ _ _ _ us hl=>by obtain⟨_,_,_,rfl⟩:=L3.len3 hl;rfl)⟩,Yk _ _ _⟩
theorem Y0(Z:Zk K mg ca):MtH P w K mg base ca 12 "shot" 1 1 ZQ:=by
 obtain⟨f,fd,F,hm⟩:=Z.u10
 exact⟨⟨f,fd,["self"],Qa4 F Qex rfl rfl (λcdv A outer s H E hr=>(Qj (QL (YC (Qe (Za (Qa 0) Z.a_state) (Qe (Za (Qa 0) Z.a_place) (Qe (Qb0 (Qda Z.z_tuple (Za (Qa 0) Z.a_left_marks)) (Qgz rfl Z.z_tuple Z.z_reversed (Za (Qa 0) Z.a_right_marks))) Qp))))))),hm.1,hm.2,F.binds (ps:=["self"]) (λ_ _ _ _ _ _ us hl=>by obtain⟨_,rfl⟩:=L3.len1 hl;rfl)⟩,Yk _ _ _⟩
theorem Z5(Z:Zk K mg ca):MtH P w K mg base ca 12 "is_on_mark" 1 1 QF:=by
 obtain⟨f,fd,F,hm⟩:=Z.u11
 exact⟨⟨f,fd,["self"],Qa4 F QaX rfl rfl (λcdv A outer s H E hr=>(Qj (QL (Qbw (r_gt (Qah Z.z_len (Za (Qa 0) Z.a_right_marks)) Qh) (QcD (r_eq hr (Qi (Qi (Za (Qa 0) Z.a_right_marks) (Qgu Qh)) Qh) (Za (Qa 0) Z.a_place))))))),hm.1,hm.2,F.binds (ps:=["self"]) (λ_ _ _ _ _ _ us hl=>by obtain⟨_,rfl⟩:=L3.len1 hl;rfl)⟩,Yk _ _ _⟩
theorem QdL(Z:Zk K mg ca):MtH P w K mg base ca 12 "entry" 2 1 YS:=by
 obtain⟨f,fd,F,hm⟩:=Z.u12
 exact⟨⟨f,fd,["self"],Qa4 F QaY rfl rfl (λcdv A outer s H E hr=>(Qc (QO 1 QaY.nd (Qla (ZI (Ya (Z5 Z) hr.m (Qa 0))) (Qi (Qi (Za (Qa 0) Z.a_right_marks) (Qgu Qh)) Qh) (Qkv Z.g_BLANK)))
 (Qj (QL (Qi (Qi (Za (Qa 0) Z.a_table) (Za (Qa 0) Z.a_state)) (Qa 1)))))),hm.1,hm.2,F.binds (ps:=["self"]) (λ_ _ _ _ _ _ us hl=>by obtain⟨_,rfl⟩:=L3.len1 hl;rfl)⟩,Yk _ _ _⟩
theorem Qcw(Z:Zk K mg ca):MtH P w K mg base ca 12 "go_left" 1 1 Yd:=by
 obtain⟨f,fd,F,hm⟩:=Z.u13
 exact⟨⟨f,fd,["self"],Qa4 F Qcl rfl rfl (λcdv A outer s H E hr=>(Qc (Z0 (Qa 0) (Qaq (Za (Qa 0) Z.a_place) Qh) Z.a_place)
 (Qj (r_if (r_w (Qbq (Qjd (Qah Z.z_len (Za (Qa 0) Z.a_left_marks)) Qh) (Jz (QaJ hr (Qi (Qi (Za (Qa 0) Z.a_left_marks) (Qgu Qh)) Qh) (Za (Qa 0) Z.a_place))))) (Qj (Jd (Jr (Za (Qa 0) Z.a_right_marks) (Qli (Za (Qa 0) Z.a_left_marks))))) QG)))),hm.1,hm.2,F.binds (ps:=["self"]) (λ_ _ _ _ _ _ us hl=>by obtain⟨_,rfl⟩:=L3.len1 hl;rfl)⟩,Yk _ _ _⟩
theorem QbE(Z:Zk K mg ca):MtH P w K mg base ca 12 "go_right" 2 1 Z2:=by
 obtain⟨f,fd,F,hm⟩:=Z.u14
 exact⟨⟨f,fd,["self"],Qa4 F QbD rfl rfl (λcdv A outer s H E hr=>(Qc (r_if (ZI (Ya (Z5 Z) hr.m (Qa 0))) (Qj (Jd (Jr (Za (Qa 0) Z.a_left_marks) (Qli (Za (Qa 0) Z.a_right_marks))))) QG)
 (Qj (Z0 (Qa 0) (Qb0 (Za (Qa 0) Z.a_place) Qh) Z.a_place)))),hm.1,hm.2,F.binds (ps:=["self"]) (λ_ _ _ _ _ _ us hl=>by obtain⟨_,rfl⟩:=L3.len1 hl;rfl)⟩,Yk _ _ _⟩
theorem QdM(Z:Zk K mg ca):MtH P w K mg base ca 12 "write" 2 2 YT:=by
 obtain⟨f,fd,F,hm⟩:=Z.u15
 exact⟨⟨f,fd,["self", "sign"],Qa4 F QdD rfl rfl (λcdv A outer s H E hr=>(Qc (r_if (ZI (Ya (Z5 Z) hr.m (Qa 0))) (Qj (Jd (Qli (Za (Qa 0) Z.a_right_marks)))) QG)
 (Qj (r_if (QcE hr (Qa 1) (Qkv Z.g_BLANK)) (Qj (Jd (Jr (Za (Qa 0) Z.a_right_marks) (YC (Qe (Za (Qa 0) Z.a_place) (Qe (Qa 1) Qp)))))) QG)))),hm.1,hm.2,F.binds (ps:=["self", "sign"]) (λ_ _ _ _ _ _ us hl=>by obtain⟨_,_,rfl⟩:=L3.len2 hl;rfl)⟩,Yk _ _ _⟩
theorem YO(Z:Zk K mg ca):MtH P w K mg base ca 12 "stepped" 3 1 Qo:=by
 obtain⟨f,fd,F,hm⟩:=Z.u16
 exact⟨⟨f,fd,["self"],Qa4 F JX rfl rfl (λcdv A outer s H E hr=>(Qc (QO 1 JX.nd (Ya (QdL Z) hr.m (Qa 0)))
 (Qc (r_if (Qgv (Qa 1) Jc) (Qj (QL r_bl)) QG)
 (Qc (Jd (Qkq (QdM Z) hr.m (Qa 0) (Qe (Qi (Qa 1) Qh) Qp)))
 (Qc (r_if (QaJ hr (Qi (Qa 1) Qh) (Qb2 Z.g_RIGHT)) (Qj (Jd (Ya (QbE Z) hr.m (Qa 0)))) (Qj (Jd (Ya (Qcw Z) hr.m (Qa 0)))))
 (Qc (Z0 (Qa 0) (Qi (Qa 1) Qh) Z.a_state)
 (Qj (QL r_bl)))))))),hm.1,hm.2,F.binds (ps:=["self"]) (λ_ _ _ _ _ _ us hl=>by obtain⟨_,rfl⟩:=L3.len1 hl;rfl)⟩,Yk _ _ _⟩
theorem Qgj(Z:Zk K mg ca):FnH P w K mg base ca "trail" 4 2 Qba:=Yl Z.u17 QdE λ_ _ _ _ _ _ _ hr=>(Qc (QO 2 QdE.nd (QhE (Qbu Z) hr.m (Qe (Qa 0) (Qe (Qh0 Z.g_FIRST_SHOT) Qp))))
 (Qc (QO 3 QdE.nd (QeP (Qe (Ya (Y0 Z) hr.m (Qa 2)) Qp)))
 (Qc (QeR (r_w (Qbq (Qle (Qah Z.z_len (Qa 3)) (Qa 1)) (Jz (ZI (Ya (YO Z) hr.m (Qa 2)))))) (Qj (Jd (Jr (Qa 3) (Ya (Y0 Z) hr.m (Qa 2))))))
 (Qj (QL (Qa 3))))))
theorem QgZ(Z:Zk K mg ca):FnH P w K mg base ca "same_of" 5 2 QaN:=Yl Z.u18 Qag λ_ _ _ _ _ _ _ hr=>(Qc (QO 2 Qag.nd Qlx)
 (Qc (Qbx rfl (Qjk Z.z_enumerate (QE (Qgj Z) hr.m (Qe (Qa 0) (Qe (Qa 1) Qp)))) (QaE rfl (Q9 (QK 3 Qag.nd) (Q9 (QK 4 Qag.nd) QaD))) (Qc (r_if (Qnk hr (Qa 4) (Qa 2)) (Qj (QL (YC (Qe (Qb2 Z.g_SAME) (Qe (Qob hr (Qa 2) (Qa 4)) (Qe (Qa 3) Qp)))))) QG)
 (Qj (Qly hr (Qa 2) (Qa 4) (Qa 3)))))
 (Qj (QL Jc))))
theorem Qa1(Z:Zk K mg ca):FnH P w K mg base ca "marks_from" 1 2 ZU:=Yl Z.u19 QdF λ_ _ _ _ _ _ _ hr=>(Qj (QL (JD (Zh (Nb:=["place", "sign", "shot", "low"]) (no:=2) (cap:=[0,1]) (N:=Qbt) (sc:=Qd YZ) rfl rfl (by decide +kernel)) rfl (YD (Qi (Qa 0) Qh)) (λcl C s3 H3 ex=>⟨(QaE rfl (Q9 (QK 0 (show List.Nodup (["place", "sign", "shot", "low"]:List Str) by decide +kernel)) (Q9 (QK 1 (show List.Nodup (["place", "sign", "shot", "low"]:List Str) by decide +kernel)) QaD))),(QhF (QmZ (Qaq (Qa 0) (Qi (Qa 2) Qh)) (Qgu (Qa 3)))),(YC (Qe (Qaq (Qa 0) (Qi (Qa 2) Qh)) (Qe (Qa 1) Qp)))⟩))))
theorem Qap(Z:Zk K mg ca):FnH P w K mg base ca "marks_up_to" 1 2 ZC:=Yl Z.u20 QcL λ_ _ _ _ _ _ _ hr=>(Qj (QL (JD (Zh (Nb:=["place", "sign", "shot", "high"]) (no:=2) (cap:=[0,1]) (N:=QaZ) (sc:=Qd Yu) rfl rfl (by decide +kernel)) rfl (YD (Qi (Qa 0) Qh)) (λcl C s3 H3 ex=>⟨(QaE rfl (Q9 (QK 0 (show List.Nodup (["place", "sign", "shot", "high"]:List Str) by decide +kernel)) (Q9 (QK 1 (show List.Nodup (["place", "sign", "shot", "high"]:List Str) by decide +kernel)) QaD))),(QhF (Qle (Qaq (Qa 0) (Qi (Qa 2) Qh)) (Qa 3))),(YC (Qe (Qaq (Qa 0) (Qi (Qa 2) Qh)) (Qe (Qa 1) Qp)))⟩))))
theorem Qa2(Z:Zk K mg ca):FnH P w K mg base ca "is_shifted" 2 4 ZV:=Yl Z.u21 QdG λ_ _ _ _ _ _ _ hr=>(Qc (r_if (r_w (Qd1 (QcE hr (Qi (Qa 0) Qh) (Qi (Qa 1) Qh)) (QbX (QaJ hr (Qi (Qa 0) Qh) (Qi (Qa 1) Qh))))) (Qj (QL r_bl)) QG)
 (Qc (r_if (Qjc (Qi (Qa 0) Qh) (Qi (Qa 1) Qh)) (Qj (QL (r_eq hr (QE (Qa1 Z) hr.m (Qe (Qa 0) (Qe (Qa 2) Qp))) (QE (Qa1 Z) hr.m (Qe (Qa 1) (Qe (Qa 2) Qp)))))) QG)
 (Qj (QL (r_eq hr (QE (Qap Z) hr.m (Qe (Qa 0) (Qe (Qa 3) Qp))) (QE (Qap Z) hr.m (Qe (Qa 1) (Qe (Qa 3) Qp))))))))
theorem QbF(Z:Zk K mg ca):FnH P w K mg base ca "first_shifted" 3 2 Z3:=Yl Z.u22 QA λ_ _ _ _ _ _ _ hr=>(Qc (QO 2 QA.nd (Qi (Qa 0) (Qa 1)))
 (Qc (QO 3 QA.nd (Qi (Qa 2) Qh))
 (Qc (QO 4 QA.nd (Qi (Qa 2) Qh))
 (Qc (QO 5 QA.nd Jc)
 (Qc (Qbx rfl (Qjw Z.z_range (Qaq (Qa 1) Qh) (Qgu Qh)) (QK 6 QA.nd) (Qc (QO 7 QA.nd (Qi (Qa 0) (Qa 6)))
 (Qc (QO 3 QA.nd (Qh7 rfl Z.z_min (Qa 3) (Qi (Qa 7) Qh)))
 (Qc (QO 4 QA.nd (QkE rfl Z.z_max (Qa 4) (Qi (Qa 7) Qh)))
 (Qj (r_if (ZI (QE (Qa2 Z) hr.m (Qe (Qa 7) (Qe (Qa 2) (Qe (Qaq (Qi (Qa 7) Qh) (Qa 3)) (Qe (Qaq (Qa 4) (Qi (Qa 7) Qh)) Qp)))))) (Qj (QO 5 QA.nd (Qa 6))) QG))))))
 (Qj (QL (Qa 5))))))))
theorem QdN(Z:Zk K mg ca):FnH P w K mg base ca "shifted_of" 5 2 YU:=Yl Z.u23 Yv λ_ _ _ _ _ _ _ hr=>(Qc (QO 2 Yv.nd (QE (Qgj Z) hr.m (Qe (Qa 0) (Qe (Qa 1) Qp))))
 (Qc (Qbx rfl (Qc6 Z.z_range Qh (Qah Z.z_len (Qa 2))) (QK 3 Yv.nd) (Qc (QO 4 Yv.nd (QE (QbF Z) hr.m (Qe (Qa 2) (Qe (Qa 3) Qp))))
 (Qj (r_if (Qc8 (Qa 4) Jc) (Qj (QL (YC (Qe (Qb2 Z.g_SHIFTED) (Qe (Qa 4) (Qe (Qa 3) Qp)))))) QG))))
 (Qj (QL Jc))))
theorem Qcx(Z:Zk K mg ca):FnH P w K mg base ca "is_paper" 3 2 Ji:=Yl Z.u24 Qfp λ_ _ _ _ _ _ _ hr=>(Qc (r_if (r_w (Qd1 (Qbp (ZI (YR .tuple Z.z_isinstance Z.z_tuple QaL (Qa 0)))) (Qd1 (QcE hr (Qah Z.z_len (Qa 0)) Qh) (QbX (QcE hr (Qi (Qa 0) Qh) (Qa 1)))))) (Qj (QL r_bl)) QG)
 (Qj (QL (Qbw (QE (Qct Z) hr.m (Qe (Qi (Qa 0) Qh) Qp)) (QcD (QE (Qaz Z) hr.m (Qe (Qi (Qa 0) Qh) (Qe (Qi (Qa 0) Qh) Qp))))))))
theorem Qft(Z:Zk K mg ca):MtH P w K mg base ca 12 "run" 4 2 Qaa:=by
 obtain⟨f,fd,F,hm⟩:=Z.u25
 exact⟨⟨f,fd,["self", "steps"],Qa4 F Qay rfl rfl (λcdv A outer s H E hr=>(Qc (QO 2 Qay.nd Qh)
 (Qc (QeR (r_w (Qbq (Qjc (Qa 2) (Qa 1)) (Jz (ZI (Ya (YO Z) hr.m (Qa 0)))))) (Qj (QO 2 Qay.nd (Qb0 (Qa 2) Qh))))
 (Qj (QL (Qa 2)))))),hm.1,hm.2,F.binds (ps:=["self", "steps"]) (λ_ _ _ _ _ _ us hl=>by obtain⟨_,_,rfl⟩:=L3.len2 hl;rfl)⟩,Yk _ _ _⟩
theorem Qcy(Z:Zk K mg ca):FnH P w K mg base ca "round_of" 5 3 Qab:=Yl Z.u26 ZB λ_ _ _ _ _ _ _ hr=>(Qc (QO 3 ZB.nd (QhE (Qbu Z) hr.m (Qe (Qa 0) (Qe (Qh0 Z.g_FIRST_SHOT) Qp))))
 (Qc (r_if (Qjc (Qkq (Qft Z) hr.m (Qa 3) (Qe (Qa 1) Qp)) (Qa 1)) (Qj (QL Jc)) QG)
 (Qc (QO 4 ZB.nd (Ya (Y0 Z) hr.m (Qa 3)))
 (Qc (QO 5 ZB.nd (Qi (Qa 4) Qh))
 (Qc (QO 6 ZB.nd (Qi (Qa 4) Qh))
 (Qc (Qbx rfl (Qc6 Z.z_range (Qa 1) (Qa 2)) (QK 7 ZB.nd) (Qc (r_if (Qbp (ZI (Ya (YO Z) hr.m (Qa 3)))) (Qj (QL Jc)) QG)
 (Qc (QO 5 ZB.nd (Qh7 rfl Z.z_min (Qa 5) (Za (Qa 3) Z.a_place)))
 (Qj (QO 6 ZB.nd (QkE rfl Z.z_max (Qa 6) (Za (Qa 3) Z.a_place)))))))
 (Qj (QL (YC (Qe (Qa 4) (Qe (Ya (Y0 Z) hr.m (Qa 3)) (Qe (Qaq (Qi (Qa 4) Qh) (Qa 5)) (Qe (Qaq (Qa 6) (Qi (Qa 4) Qh)) Qp)))))))))))))
theorem QdO(Z:Zk K mg ca):FnH P w K mg base ca "takes_same" 6 2 Zv:=Yl Z.u27 Qa0 λ_ _ _ _ _ _ _ hr=>(Qc (r_if (Qbp (ZI (QE (Qcx Z) hr.m (Qe (Qa 1) (Qe (Qb2 Z.g_SAME) Qp))))) (Qj (QL r_bl)) QG)
 (Qc (QO 2 Qa0.nd (QE (Qcy Z) hr.m (Qe (Qa 0) (Qe (Qi (Qa 1) Qh) (Qe (Qi (Qa 1) Qh) Qp)))))
 (Qj (QL (Qbw (QhL (Qa 2) Jc) (QcD (r_eq hr (Qi (Qa 2) Qh) (Qi (Qa 2) Qh))))))))
theorem QbG(Z:Zk K mg ca):FnH P w K mg base ca "takes_shifted" 6 2 Zw:=Yl Z.u28 Ju λ_ _ _ _ _ _ _ hr=>(Qc (r_if (Qbp (ZI (QE (Qcx Z) hr.m (Qe (Qa 1) (Qe (Qb2 Z.g_SHIFTED) Qp))))) (Qj (QL r_bl)) QG)
 (Qc (QO 2 Ju.nd (QE (Qcy Z) hr.m (Qe (Qa 0) (Qe (Qi (Qa 1) Qh) (Qe (Qi (Qa 1) Qh) Qp)))))
 (Qj (QL (Qbw (QhL (Qa 2) Jc) (QcD (QE (Qa2 Z) hr.m (Qe (Qi (Qa 2) Qh) (Qe (Qi (Qa 2) Qh) (Qe (Qi (Qa 2) Qh) (Qe (Qi (Qa 2) Qh) Qp)))))))))))
theorem Qke(Z:Zk K mg ca):FnH P w K mg base ca "takes" 7 2 JK:=Yl Z.u29 Qkb λ_ _ _ _ _ _ _ hr=>(Qc (r_if (r_w (Qd1 (ZI (QE (QdO Z) hr.m (Qe (Qa 0) (Qe (Qa 1) Qp)))) (QbX (ZI (QE (QbG Z) hr.m (Qe (Qa 0) (Qe (Qa 1) Qp))))))) (Qj (QL r_bl)) QG)
 (Qj QbY))
theorem QiS(Z:Zk K mg ca):FnH P w K mg base ca "_law_fits" 8 3 QbK:=Yl Z.u30 Qcq λ_ _ _ _ _ _ _ hr=>(Qc (QO 3 Qcq.nd (QE (QgZ Z) hr.m (Qe (Qa 0) (Qe (Qa 2) Qp))))
 (Qc (QO 4 Qcq.nd (QE (QdN Z) hr.m (Qe (Qa 0) (Qe (Qa 2) Qp))))
 (Qc (r_if (Qbp (ZI (QE (Qcv Z 6) hr.m (Qe (Qa 3) (Qe (QE (J4 Z) hr.m (Qe (Qa 1) (Qe (Qa 2) (Qe QeO Qp)))) Qp))))) (Qj (QL r_bl)) QG)
 (Qc (r_if (Qbp (ZI (QE (Qcv Z 6) hr.m (Qe (Qa 4) (Qe (QE (J4 Z) hr.m (Qe (Qa 1) (Qe (Qa 2) (Qe QeO Qp)))) Qp))))) (Qj (QL r_bl)) QG)
 (Qj (QL (Qjg rfl Z.z_all (JD (Zh (Nb:=["_law_paper", "_law_machine"]) (no:=1) (cap:=[0]) (N:=Qgi) (sc:=Qd QbQ) rfl rfl (by decide +kernel)) rfl (YD (YC (Qe (Qa 3) (Qe (Qa 4) Qp)))) (λcl C s3 H3 ex=>⟨(QK 0 (show List.Nodup (["_law_paper", "_law_machine"]:List Str) by decide +kernel)),(QhF (Qc8 (Qa 0) Jc)),(Qn8 (QE (Qke Z) hr.m (Qe (Qa 1) (Qe (Qa 0) Qp))) r_bl)⟩)))))))))
theorem Qa3(Z:Zk K mg ca):FnH P w K mg base ca "_law_next" 1 2 YV:=Yl Z.u31 Qcr λ_ _ _ _ _ _ _ hr=>(Qc (QeQ (Qa 1) Qh (Qb0 (Qi (Qa 1) Qh) Qh))
 (Qc (QO 2 Qcr.nd (Qla (Qjd (Qah Z.z_len (Qa 0)) Qh) (Qi (Qa 0) (Jv (Qi (Qa 1) Qh) (Qah Z.z_len (Qa 0)))) Qh))
 (Qc (QO 3 Qcr.nd (Jv (Qjb (Qb0 (Qb0 (Jv (Qa 2) Qh) (Qjb (Qjb (Qi (Qa 1) Qh) (Qi (Qa 1) Qh)) Qh)) Qh) Qh) Qh))
 (Qj (QL (Jv (Qjb (Qa 3) (Qa 3)) Qh))))))
theorem Qg0(Z:Zk K mg ca):FnH P w K mg base ca "_law_table" 2 4 Qca:=Yl Z.u32 ZZ λ_ _ _ _ _ _ _ hr=>(Qc (QO 4 ZZ.nd (QeP Qp))
 (Qc (Qbx rfl (QaF Z.z_range (Qa 2)) (QK 5 ZZ.nd) (Qc (QO 6 ZZ.nd (QeP Qp))
 (Qc (Qbx rfl (QaF Z.z_range (Qa 3)) (QK 7 ZZ.nd) (Qc (QO 8 ZZ.nd (QE (Qa3 Z) hr.m (Qe (Qa 0) (Qe (Qa 1) Qp))))
 (Qc (QO 9 ZZ.nd (YC (Qe (Jv (QaI (Qa 8) Qh) (Qa 3)) (Qe (Qi QeO (Jv (QaI (Qa 8) Qh) Qh)) (Qe (Jv (QaI (Qa 8) Qh) (Qa 2)) Qp)))))
 (Qc (r_if (QaJ hr (Jv (Qa 8) Qh) Qh) (Qj (QO 9 ZZ.nd Jc)) QG)
 (Qj (Jd (Jr (Qa 6) (Qa 9))))))))
 (Qj (Jd (Jr (Qa 4) (Qa 6)))))))
 (Qj (QL (Qa 4)))))
theorem Qcz(Z:Zk K mg ca):FnH P w K mg base ca "_law_machine_by" 3 2 Y8:=Yl Z.u33 QC λ_ _ _ _ _ _ _ hr=>(Qc (QO 2 QC.nd (QE (Qa3 Z) hr.m (Qe (Qa 0) (Qe (Qa 1) Qp))))
 (Qc (QO 3 QC.nd (Qi (QeP (Qe Qh (Qe Qh (Qe Qh (Qe Qh (Qe Qh (Qe Qh Qp))))))) (Jv (Qa 2) Qh)))
 (Qc (QO 4 QC.nd (Qi (QeP (Qe Qh (Qe Qh (Qe Qh (Qe Qh (Qe Qh (Qe Qh Qp))))))) (Jv (QaI (Qa 2) Qh) Qh)))
 (Qc (r_if (QaJ hr (Jv (QaI (Qa 2) Qh) Qh) Qh) (Qj (Qlb (YC (Qe Qh (Qe Qh Qp))) (QaE rfl (Q9 (QK 3 QC.nd) (Q9 (QK 4 QC.nd) QaD))))) QG)
 (Qc (QO 5 QC.nd (QE (Qg0 Z) hr.m (Qe (Qa 0) (Qe (Qa 1) (Qe (Qa 3) (Qe (Qa 4) Qp))))))
 (Qc (Qbx rfl (QaF Z.z_range (Qa 3)) (QK 6 QC.nd) (Qj (Qbx rfl (QaF Z.z_range (Qa 4)) (QK 7 QC.nd) (Qc (QO 2 QC.nd (QE (Qa3 Z) hr.m (Qe (Qa 0) (Qe (Qa 1) Qp))))
 (Qc (r_if (r_w (Qbq (QaJ hr (Jv (Qa 2) Qh) Qh) (Jz (Qc8 (Qi (Qi (Qa 5) (Qa 6)) (Qa 7)) Jc)))) (Qj (QeQ (Qi (Qa 5) (Qa 6)) (Qa 7) (YC (Qe (Qi (Qi (Qi (Qa 5) (Qa 6)) (Qa 7)) Qh) (Qe (Qi (Qi (Qi (Qa 5) (Qa 6)) (Qa 7)) Qh) (Qe (Qa 6) Qp)))))) QG)
 (Qj (r_if (r_w (Qbq (Qjd (Jv (QaI (Qa 2) Qh) Qh) Qh) (Jz (Qgv (Qi (Qi (Qa 5) (Qa 6)) (Qa 7)) Jc)))) (Qj (QeQ (Qi (Qa 5) (Qa 6)) (Qa 7) (YC (Qe (Jv (QaI (Qa 2) Qh) (Qa 4)) (Qe (Qi QeO (Jv (QaI (Qa 2) Qh) Qh)) (Qe (Jv (QaI (Qa 2) Qh) (Qa 3)) Qp)))))) QG)))))))
 (Qj (QL (Qa 5)))))))))
theorem QiT(Z:Zk K mg ca):FnH P w K mg base ca "_law_step" 1 2 Qad:=Yl Z.u34 Jo λ_ _ _ _ _ _ _ hr=>(Qc (Qlb (Qa 1) (QaE rfl (Q9 (QK 2 Jo.nd) (Q9 (QK 3 Jo.nd) (Q9 (QK 4 Jo.nd) QaD)))))
 (Qc (QO 5 Jo.nd (Qi (Qi (Qa 0) (Qa 2)) (QeZ (Qa 4) (Qa 3) Qh)))
 (Qc (r_if (Qgv (Qa 5) Jc) (Qj (QL Jc)) QG)
 (Qc (QO 6 Jo.nd (Qnc Z.z_dict (Qa 4)))
 (Qc (Qne (Qa 6) (Qa 3) (Qi (Qa 5) Qh))
 (Qc (r_if (QaJ hr (Qi (Qa 5) Qh) Qh) (Qj (Jd (Qnd (Qa 6) (Qa 3)))) QG)
 (Qc (r_if (QaJ hr (Qi (Qa 5) Qh) QeO) (Qj (QL (YC (Qe (Qi (Qa 5) Qh) (Qe (Qb0 (Qa 3) Qh) (Qe (Qa 6) Qp)))))) QG)
 (Qj (QL (YC (Qe (Qi (Qa 5) Qh) (Qe (Qaq (Qa 3) Qh) (Qe (Qa 6) Qp)))))))))))))
theorem Qkf(Z:Zk K mg ca):FnH P w K mg base ca "_law_run" 2 3 Qe8:=Yl Z.u35 QdJ λ_ _ _ _ _ _ _ hr=>(Qc (QO 3 QdJ.nd (QeP (Qe (Qa 1) Qp)))
 (Qc (QeR (Qle (Qah Z.z_len (Qa 3)) (Qa 2)) (Qc (QO 1 QdJ.nd (QE (QiT Z) hr.m (Qe (Qa 0) (Qe (Qa 1) Qp))))
 (Qc (r_if (Qgv (Qa 1) Jc) (Qj (QL (Qa 3))) QG)
 (Qj (Jd (Jr (Qa 3) (Qa 1)))))))
 (Qj (QL (Qa 3)))))
theorem QnF(Z:Zk K mg ca){f:Addr}{fd:FuncData}(F:Fun K "law" "law" QiR f fd):FnOk P w K mg base (CXW P w ca) 9 f fd ["_law_script"] (spM K ca 1 QjD) :=
 Qa4 F QcW rfl rfl (λcdv A outer s H E hr=>(Qc (QO 1 QcW.nd (QeP (Qe Qh Qp)))
 (Qc (QO 2 QcW.nd (QE (Qcz Z) hr.m (Qe (Qa 0) (Qe (Qa 1) Qp))))
 (Qc (QO 3 QcW.nd (QhE (Qcu Z) hr.m (Qe (Qa 2) Qp)))
 (Qc (QO 4 QcW.nd (QE (Qkf Z) hr.m (Qe (Qa 2) (Qe (YC (Qe Qh (Qe Qh (Qe Qnb Qp)))) (Qe Qh Qp)))))
 (Qc (QO 5 QcW.nd (Qaq (Jv (QE (Qa3 Z) hr.m (Qe (Qa 0) (Qe (Qa 1) Qp))) Qh) Qh))
 (Qj (QL (Qjg rfl Z.z_all (JD (Zh (Nb:=["_law_number", "_law_machine", "_law_shots"]) (no:=1) (cap:=[3,4]) (N:=QnE) (sc:=Qd QiR) rfl rfl (by decide +kernel)) rfl (YD (YC (Qe (Qa 5) (Qe (Qaq Qh (Jv (Qa 5) Qh)) Qp)))) (λcl C s3 H3 ex=>⟨(QK 0 (show List.Nodup (["_law_number", "_law_machine", "_law_shots"]:List Str) by decide +kernel)),QeS,(QE (QiS Z) hr.m (Qe (Qa 1) (Qe (Qa 2) (Qe (Qa 0) Qp))))⟩)))))))))))
end
noncomputable def caOf(l:List Nat)(n:Nat):Addr:=l.getD n 0
def FA(K:Frag)(x:Str)(st:Stmt):Prop:=∃(f:Addr)(oc kV dc pm cd ct:Value)(od an:Option Addr)(sl:Array (Option Value)),nsIn K mainGlobals x=some (some (.ref f))/\K.lookup f=some ⟨oc,od,.func (fnOf x x (Zq st) (Q6 st) (Qd st) .none kV dc pm an cd ct),sl⟩/\codeIn K cd x=true/\keepIn K (.ref f)=true
theorem fa_mk{K:Frag}{x:Str}{st:Stmt}{f:Addr}{oc kV dc pm cd ct:Value}{od an:Option Addr}{sl:Array (Option Value)}(a:nsIn K mainGlobals x=some (some (.ref f)))(l:K.lookup f=some ⟨oc,od,.func (fnOf x x (Zq st) (Q6 st) (Qd st) .none kV dc pm an cd ct),sl⟩)(d:codeIn K cd x=true)(k:keepIn K (.ref f)=true):FA K x st:=⟨f,oc,kV,dc,pm,cd,ct,od,an,sl,a,l,d,k⟩
theorem FA.u{K:Frag}{h:Heap}{mg:Str->Option Value}{x:Str}{st:Stmt}(a:FA K x st)(X:K.In h)(G:h.Ns mainGlobals mg):UF K mg x st:=by
 obtain⟨f,oc,kV,dc,pm,cd,ct,od,an,sl,a,l,d,k⟩:=a
 exact⟨f,_,Jx l d k,TC X G a⟩
theorem z_mk{K:Frag}{h:Heap}{mg:Str->Option Value}(X:K.In h)(G:h.Ns mainGlobals mg){C0 C1 C7 C8 C11 C12 C14:Addr}{oc28 kV28 dc28 pm28 cd28 ct28:Value}{od28 an28:Option Addr}{sl28:Array (Option Value)}{f28:Addr}{oc29 kV29 dc29 pm29 cd29 ct29:Value}{od29 an29:Option Addr}{sl29:Array (Option Value)}{f29:Addr}{oc30 kV30 dc30 pm30 cd30 ct30:Value}{od30 an30:Option Addr}{sl30:Array (Option Value)}{f30:Addr}{oc31 kV31 dc31 pm31 cd31 ct31:Value}{od31 an31:Option Addr}{sl31:Array (Option Value)}{f31:Addr}{oc32 kV32 dc32 pm32 cd32 ct32:Value}{od32 an32:Option Addr}{sl32:Array (Option Value)}{f32:Addr}{oc33 kV33 dc33 pm33 cd33 ct33:Value}{od33 an33:Option Addr}{sl33:Array (Option Value)}{f33:Addr}{oc34 kV34 dc34 pm34 cd34 ct34:Value}{od34 an34:Option Addr}{sl34:Array (Option Value)}{f34:Addr}{oc35 kV35 dc35 pm35 cd35 ct35:Value}{od35 an35:Option Addr}{sl35:Array (Option Value)}{f35:Addr}{oc36 kV36 dc36 pm36 cd36 ct36:Value}{od36 an36:Option Addr}{sl36:Array (Option Value)}{f36:Addr}{oc37 kV37 dc37 pm37 cd37 ct37:Value}{od37 an37:Option Addr}{sl37:Array (Option Value)}{f37:Addr}{og_BLANK:_}{og_FIRST_SHOT:Addr}{og_LEFT:_}{og_RIGHT:_}{og_SAME:_}{og_SHIFTED:_}(c0:nsIn K mainGlobals "TapeError" = some (some (.ref C0)))(c1:nsIn K mainGlobals "NoMachine" = some (some (.ref C1)))(c7:nsIn K mainGlobals "NoShape" = some (some (.ref C7)))(c8:nsIn K mainGlobals "NoMove" = some (some (.ref C8)))(c11:nsIn K mainGlobals "Machine" = some (some (.ref C11)))(c12:nsIn K mainGlobals "Walk" = some (some (.ref C12)))(c14:nsIn K mainGlobals "Grams" = some (some (.ref C14)))(a1:FA K "is_whole" Qbh)(a2:FA K "is_below" Qbi)(a3:FA K "is_entry" Qbj)(a4:FA K "check_rows" YY)(a5:FA K "_law_alike" JW)(a6:FA K "_law_shot" QbO)(a7:FA K "_law_first_pair" Y9)(a8:FA K "_law_same" QbP)(a9:FA K "trail" Qfo)(a10:FA K "same_of" Qcn)(a11:FA K "marks_from" YZ)(a12:FA K "marks_up_to" Yu)(a13:FA K "is_shifted" JY)(a14:FA K "first_shifted" YM)(a15:FA K "shifted_of" JZ)(a16:FA K "is_paper" Qbl)(a17:FA K "round_of" Qbm)(a18:FA K "takes_same" J0)(a19:FA K "takes_shifted" YN)(a20:FA K "takes" Qfq)(a21:FA K "_law_fits" QbQ)(a22:FA K "_law_next" QdH)(a23:FA K "_law_table" Qcs)(a24:FA K "_law_machine_by" Ja)(a25:FA K "_law_step" QdI)(a26:FA K "_law_run" Qfr)(a27:FA K "law" QiR)(a28:findIn K (.ref C11) "__init__" = some (some (.ref f28)))(l28:K.lookup f28=some ⟨oc28,od28,.func (fnOf "__init__" "Machine.__init__" (Zq Q4) (Q6 Q4) (Qd Q4) .none kV28 dc28 pm28 an28 cd28 ct28),sl28⟩)(d28:codeIn K cd28 "Machine.__init__" = true)(k28:keepIn K (.ref f28)=true)(i28:isFn K (.ref f28)=true)(m28:makesIn K C11=true)(q28:keepIn K (.ref C11)=true)(a29:findIn K (.ref C12) "__init__" = some (some (.ref f29)))(l29:K.lookup f29=some ⟨oc29,od29,.func (fnOf "__init__" "Walk.__init__" (Zq ZA) (Q6 ZA) (Qd ZA) .none kV29 dc29 pm29 an29 cd29 ct29),sl29⟩)(d29:codeIn K cd29 "Walk.__init__" = true)(k29:keepIn K (.ref f29)=true)(i29:isFn K (.ref f29)=true)(m29:makesIn K C12=true)(q29:keepIn K (.ref C12)=true)(a30:findIn K (.ref C12) "shot" = some (some (.ref f30)))(l30:K.lookup f30=some ⟨oc30,od30,.func (fnOf "shot" "Walk.shot" (Zq Yc) (Q6 Yc) (Qd Yc) .none kV30 dc30 pm30 an30 cd30 ct30),sl30⟩)(d30:codeIn K cd30 "Walk.shot" = true)(k30:keepIn K (.ref f30)=true)(i30:isFn K (.ref f30)=true)(w30:clsB K C12=true)(a31:findIn K (.ref C12) "is_on_mark" = some (some (.ref f31)))(l31:K.lookup f31=some ⟨oc31,od31,.func (fnOf "is_on_mark" "Walk.is_on_mark" (Zq QV) (Q6 QV) (Qd QV) .none kV31 dc31 pm31 an31 cd31 ct31),sl31⟩)(d31:codeIn K cd31 "Walk.is_on_mark" = true)(k31:keepIn K (.ref f31)=true)(i31:isFn K (.ref f31)=true)(w31:clsB K C12=true)(a32:findIn K (.ref C12) "entry" = some (some (.ref f32)))(l32:K.lookup f32=some ⟨oc32,od32,.func (fnOf "entry" "Walk.entry" (Zq ZX) (Q6 ZX) (Qd ZX) .none kV32 dc32 pm32 an32 cd32 ct32),sl32⟩)(d32:codeIn K cd32 "Walk.entry" = true)(k32:keepIn K (.ref f32)=true)(i32:isFn K (.ref f32)=true)(w32:clsB K C12=true)(a33:findIn K (.ref C12) "go_left" = some (some (.ref f33)))(l33:K.lookup f33=some ⟨oc33,od33,.func (fnOf "go_left" "Walk.go_left" (Zq Zj) (Q6 Zj) (Qd Zj) .none kV33 dc33 pm33 an33 cd33 ct33),sl33⟩)(d33:codeIn K cd33 "Walk.go_left" = true)(k33:keepIn K (.ref f33)=true)(i33:isFn K (.ref f33)=true)(w33:clsB K C12=true)(a34:findIn K (.ref C12) "go_right" = some (some (.ref f34)))(l34:K.lookup f34=some ⟨oc34,od34,.func (fnOf "go_right" "Walk.go_right" (Zq Ze) (Q6 Ze) (Qd Ze) .none kV34 dc34 pm34 an34 cd34 ct34),sl34⟩)(d34:codeIn K cd34 "Walk.go_right" = true)(k34:keepIn K (.ref f34)=true)(i34:isFn K (.ref f34)=true)(w34:clsB K C12=true)(a35:findIn K (.ref C12) "write" = some (some (.ref f35)))(l35:K.lookup f35=some ⟨oc35,od35,.func (fnOf "write" "Walk.write" (Zq ZY) (Q6 ZY) (Qd ZY) .none kV35 dc35 pm35 an35 cd35 ct35),sl35⟩)(d35:codeIn K cd35 "Walk.write" = true)(k35:keepIn K (.ref f35)=true)(i35:isFn K (.ref f35)=true)(w35:clsB K C12=true)(a36:findIn K (.ref C12) "stepped" = some (some (.ref f36)))(l36:K.lookup f36=some ⟨oc36,od36,.func (fnOf "stepped" "Walk.stepped" (Zq Zl) (Q6 Zl) (Qd Zl) .none kV36 dc36 pm36 an36 cd36 ct36),sl36⟩)(d36:codeIn K cd36 "Walk.stepped" = true)(k36:keepIn K (.ref f36)=true)(i36:isFn K (.ref f36)=true)(w36:clsB K C12=true)(a37:findIn K (.ref C12) "run" = some (some (.ref f37)))(l37:K.lookup f37=some ⟨oc37,od37,.func (fnOf "run" "Walk.run" (Zq Yz) (Q6 Yz) (Qd Yz) .none kV37 dc37 pm37 an37 cd37 ct37),sl37⟩)(d37:codeIn K cd37 "Walk.run" = true)(k37:keepIn K (.ref f37)=true)(i37:isFn K (.ref f37)=true)(w37:clsB K C12=true)(nz_all:nsIn K mainGlobals "all" = some none)(nz_bool:nsIn K mainGlobals "bool" = some none)(nz_dict:nsIn K mainGlobals "dict" = some none)(nz_enumerate:nsIn K mainGlobals "enumerate" = some none)(nz_int:nsIn K mainGlobals "int" = some none)(nz_isinstance:nsIn K mainGlobals "isinstance" = some none)(nz_len:nsIn K mainGlobals "len" = some none)(nz_list:nsIn K mainGlobals "list" = some none)(nz_max:nsIn K mainGlobals "max" = some none)(nz_min:nsIn K mainGlobals "min" = some none)(nz_range:nsIn K mainGlobals "range" = some none)(nz_reversed:nsIn K mainGlobals "reversed" = some none)(nz_sorted:nsIn K mainGlobals "sorted" = some none)(nz_str:nsIn K mainGlobals "str" = some none)(nz_tuple:nsIn K mainGlobals "tuple" = some none)(nz_zip:nsIn K mainGlobals "zip" = some none)(ng_BLANK:nsIn K mainGlobals "BLANK" = some (some (.int 0 og_BLANK)))(ng_FIRST_SHOT:nsIn K mainGlobals "FIRST_SHOT" = some (some (.ref og_FIRST_SHOT)))(mg_FIRST_SHOT:datB K 9 (.ref og_FIRST_SHOT) (.tup [(.int 0),(.int 0),(.tup [])])=true)(ng_LEFT:nsIn K mainGlobals "LEFT" = some (some (.str "l" og_LEFT)))(ng_RIGHT:nsIn K mainGlobals "RIGHT" = some (some (.str "r" og_RIGHT)))(ng_SAME:nsIn K mainGlobals "SAME" = some (some (.str "same" og_SAME)))(ng_SHIFTED:nsIn K mainGlobals "SHIFTED" = some (some (.str "shifted" og_SHIFTED)))(na_left_marks:fldB K (caOf [C0,C1,0,0,0,0,0,C7,C8,0,0,C11,C12,0,C14]) [12] "left_marks" = true)(na_place:fldB K (caOf [C0,C1,0,0,0,0,0,C7,C8,0,0,C11,C12,0,C14]) [12] "place" = true)(na_right_marks:fldB K (caOf [C0,C1,0,0,0,0,0,C7,C8,0,0,C11,C12,0,C14]) [12] "right_marks" = true)(na_state:fldB K (caOf [C0,C1,0,0,0,0,0,C7,C8,0,0,C11,C12,0,C14]) [12] "state" = true)(na_table:fldB K (caOf [C0,C1,0,0,0,0,0,C7,C8,0,0,C11,C12,0,C14]) [11,12] "table" = true):Zk K mg (caOf [C0,C1,0,0,0,0,0,C7,C8,0,0,C11,C12,0,C14]) :=
  ⟨UC X G nz_all,
   UC X G nz_bool,
   UC X G nz_dict,
   UC X G nz_enumerate,
   UC X G nz_int,
   UC X G nz_isinstance,
   UC X G nz_len,
   UC X G nz_list,
   UC X G nz_max,
   UC X G nz_min,
   UC X G nz_range,
   UC X G nz_reversed,
   UC X G nz_sorted,
   UC X G nz_str,
   UC X G nz_tuple,
   UC X G nz_zip,
   ⟨_,TC X G ng_BLANK⟩,
   (QkB 9 _ _ mg_FIRST_SHOT).elim λv h=>⟨_,v,TC X G ng_FIRST_SHOT,h.1,h.2⟩,
   ⟨_,TC X G ng_LEFT⟩,
   ⟨_,TC X G ng_RIGHT⟩,
   ⟨_,TC X G ng_SAME⟩,
   ⟨_,TC X G ng_SHIFTED⟩,
   Qd8 na_left_marks,
   Qd8 na_place,
   Qd8 na_right_marks,
   Qd8 na_state,
   Qd8 na_table,
   a1.u X G,
   a2.u X G,
   a3.u X G,
   a4.u X G,
   ⟨f28,_,Jx (st:=Q4) l28 d28 k28,⟨m28,a28,i28,q28⟩,TC X G c11⟩,
   a5.u X G,
   a6.u X G,
   a7.u X G,
   a8.u X G,
   ⟨f29,_,Jx (st:=ZA) l29 d29 k29,⟨m29,a29,i29,q29⟩,TC X G c12⟩,
   ⟨f30,_,Jx (st:=Yc) l30 d30 k30,⟨a30,i30,k30⟩,QaK w30⟩,
   ⟨f31,_,Jx (st:=QV) l31 d31 k31,⟨a31,i31,k31⟩,QaK w31⟩,
   ⟨f32,_,Jx (st:=ZX) l32 d32 k32,⟨a32,i32,k32⟩,QaK w32⟩,
   ⟨f33,_,Jx (st:=Zj) l33 d33 k33,⟨a33,i33,k33⟩,QaK w33⟩,
   ⟨f34,_,Jx (st:=Ze) l34 d34 k34,⟨a34,i34,k34⟩,QaK w34⟩,
   ⟨f35,_,Jx (st:=ZY) l35 d35 k35,⟨a35,i35,k35⟩,QaK w35⟩,
   ⟨f36,_,Jx (st:=Zl) l36 d36 k36,⟨a36,i36,k36⟩,QaK w36⟩,
   a9.u X G,
   a10.u X G,
   a11.u X G,
   a12.u X G,
   a13.u X G,
   a14.u X G,
   a15.u X G,
   a16.u X G,
   ⟨f37,_,Jx (st:=Yz) l37 d37 k37,⟨a37,i37,k37⟩,QaK w37⟩,
   a17.u X G,
   a18.u X G,
   a19.u X G,
   a20.u X G,
   a21.u X G,
   a22.u X G,
   a23.u X G,
   a24.u X G,
   a25.u X G,
   a26.u X G,
   a27.u X G⟩
theorem walk{l:PySem.W.OpenLaw}{p:Program}{loose:List Str}{XP:(Str->Option Value)->Heap->Prop}{YP:World->Heap->Prop}{d:DefRec}{K:Params->Frag}(C:List Nat)(hn:l.most=some 63)(hdf:d.params.defaults=[])(hd:d.name = "law")(hY:∀(w:World) (h:Heap),YP w h->(K w.params).In h)(F:∀(w:World) (mg:Str->Option Value) (h:Heap),(K w.params).In h->h.Ns mainGlobals mg->Zk (K w.params) mg (caOf C))(M:∀ns:List Int,ns.length<=63->∃g',QjD [.fl (ns.map D.int)] []=.ok (.bl true) g'):PySem.W.WalkO p loose XP YP l.row.toRowW d [] (λf vs=>PySem.call f vs):=by
 refine L2.walk_of (n:=63) (k:=9) (x:="_law_script") (CX:=λw=>CXW l.prog w (caOf C)) (sp:=λw=>spM (K w.params) (caOf C) 1 QjD) hn (by decide) hdf ⟨rfl,by decide,by decide⟩ hY (λw mg fa h KX G hmg=>?_) (λw H a ns hl hO hS=>Qm6 hO hS (M ns hl)) (λw H s e s' z=>?_)
 ·have Z:=F w mg h KX G
  obtain⟨f,fd,Fu,hm⟩:=Z.u36
  rw[hd]at hmg
  have e:=hmg.symm.trans hm
  cases e
  refine⟨fd,λs u=>?_,λbase _ _=>QnF Z Fu⟩
  obtain⟨oc,od,kV,doc,pm,an,cdv,ct,osl,rfl,lk,hcd⟩:=Fu.ex
  exact .of_eq rfl
 ·obtain⟨_,_,_,_,_,_,_,_,_,_,z⟩:=z
  exact z
end V
namespace V
open PySem PySem.W PySem.W.X PySem.Spec PyProof.Rows
theorem walkX_of{as:List Addr}{K:Params->Frag}{n t:Nat}{q:Program}{loose:List Str}{XP:(Str->Option Value)->Heap->Prop}{r:RowW}{d:DefRec}{kwd:List (Str×PySem.Expr)}{run:Value->List Value->Sem Value}(e:∀P,as=(K P).map (·.1))(h:WalkO q loose XP (InK K) r d kwd run):WalkX q loose XP (obsZ as) (valZ K n t) r d kwd run :=
 λw s₀ s₁ mg mb G y a o pm cd doc dV kV h1 h2 h3 h4 h5 h6 args vals as' L p1 p2 p3 p4 p5 =>
  h w s₀ s₁ mg mb G (InK.keeps w _ _ (z_facts e y).2.1 L.keeps) a o pm cd doc dV kV h1 h2 h3 h4 h5 h6 args vals as' p1 p2 p3 p4 p5
end V
noncomputable def PySem.W.Fast.tw17767617350954932232 : PySem.Program := PySem.Challenge.pw_tapeproof_k60_least_rounds
theorem PySem.W.Fast.te17767617350954932232 : PySem.Challenge.pw_tapeproof_k60_least_rounds = PySem.W.Fast.tw17767617350954932232 := rfl
def PySem.W.Fast.tw8506380983882495734 : Unit := ()
def PySem.W.Fast.tw17158125685126553083 : Unit := ()
def PySem.W.Fast.tw15798343957459789034 : Unit := ()
def PySem.W.Fast.tw241604408446471441 : Unit := ()
def PySem.W.Fast.tw10967838563409714279 : Unit := ()
def PySem.W.Fast.tw13462246720734292914 : Unit := ()
def PySem.W.Fast.tw2563082571483706592 : Unit := ()
def PySem.W.Fast.tw2582980682789751687 : Unit := ()
def PySem.W.Fast.tw1900249631687840571 : Unit := ()
def PySem.W.Fast.tw15465427477407842502 : Unit := ()
def PySem.W.Fast.tw7868708141683343704 : Unit := ()
def PySem.W.Fast.tw11613877549310381065 : Unit := ()
def PySem.W.Fast.tw7893099710268548811 : Unit := ()
def PySem.W.Fast.tw16362042414842460310 : Unit := ()
def PySem.W.Fast.tw5474305944411350172 : Unit := ()
def PySem.W.Fast.tw8200461426010120275 : Unit := ()
def PySem.W.Fast.tw16988708689689886018 : Unit := ()
def PySem.W.Fast.tw1012849372008814391 : Unit := ()
def PySem.W.Fast.tw15650714121828359588 : Unit := ()
def PySem.W.Fast.tw6228501147729066929 : Unit := ()
def PySem.W.Fast.tw18157524072599916430 : Unit := ()
def PySem.W.Fast.tw11223369039955722213 : Unit := ()
def PySem.W.Fast.tw6944005544175552110 : Unit := ()
def PySem.W.Fast.tw2934370657179046249 : Unit := ()
def PySem.W.Fast.tw2790436001532481655 : Unit := ()
def PySem.W.Fast.tw8604877101795323159 : Unit := ()
def PySem.W.Fast.tw15812185049960498237 : Unit := ()
def PySem.W.Fast.tw11457689904265526964 : Unit := ()
def PySem.W.Fast.tw5536798183221255992 : Unit := ()
def PySem.W.Fast.tw6525940401196137317 : Unit := ()
def PySem.W.Fast.tw12476462688065621482 : Unit := ()
def PySem.W.Fast.tw15398585247578584585 : Unit := ()
def PySem.W.Fast.tw9592880188161668305 : Unit := ()
def PySem.W.Fast.tw11172726880191621379 : Unit := ()
def PySem.W.Fast.tw15563177098915348363 : Unit := ()
def PySem.W.Fast.tw4203496235592123034 : Unit := ()
def PySem.W.Fast.tw4932768140842334628 : Unit := ()
def PySem.W.Fast.tw3018613181495649671 : Unit := ()
def PySem.W.Fast.tw13701910695340253796 : Unit := ()
def PySem.W.Fast.tw4995029930637794738 : Unit := ()
def PySem.W.Fast.tw14251765830405633443 : Unit := ()
def PySem.W.Fast.tw549629118712719238 : Unit := ()
def PySem.W.Fast.tw4885143126756722075 : Unit := ()
def PySem.W.Fast.tw18366582971434344829 : Unit := ()
def PySem.W.Fast.tw14779179081065568920 : Unit := ()
def PySem.W.Fast.tw41210653746799144 : Unit := ()
def PySem.W.Fast.tw12775058048180749147 : Unit := ()
def PySem.W.Fast.tw11492572918796805688 : Unit := ()
def PySem.W.Fast.tw15042868175803481117 : Unit := ()
def PySem.W.Fast.tw170592609004540329 : Unit := ()
def PySem.W.Fast.tw11528787667157476693 : Unit := ()
def PySem.W.Fast.tw16992044877281440567 : Unit := ()
def PySem.W.Fast.tw4949463341322776501 : Unit := ()
def PySem.W.Fast.tw14156021348657473111 : Unit := ()
def PySem.W.Fast.tw2001967207634291972 : Unit := ()
def PySem.W.Fast.tw4780967911652647519 : Unit := ()
def PySem.W.Fast.tw3607285210632702246 : Unit := ()
def PySem.W.Fast.tw4810996489069528886 : Unit := ()
def PySem.W.Fast.tw13038955796962645099 : Unit := ()
def PySem.W.Fast.tw4468967412947201319 : Unit := ()
def PySem.W.Fast.tw11944679754810065739 : Unit := ()
def PySem.W.Fast.tw14712168700663861442 : Unit := ()
def PySem.W.Fast.tw10518549689839813234 : Unit := ()
def PySem.W.Fast.tw527602533093067386 : Unit := ()
def PySem.W.Fast.tw2832623460132614321 : Unit := ()
def PySem.W.Fast.tw4193515281257174956 : Unit := ()
def PySem.W.Fast.tw17270002038098256588 : Unit := ()
def PySem.W.Fast.tw11797173376435515375 : Unit := ()
def PySem.W.Fast.tw4511962773684325364 : Unit := ()
def PySem.W.Fast.tw16167922200843518723 : Unit := ()
def PySem.W.Fast.tw16108719380178422122 : Unit := ()
def PySem.W.Fast.tw4431851700704131799 : Unit := ()
def PySem.W.Fast.tw11257536087353212225 : Unit := ()
def PySem.W.Fast.tw10318335785165033530 : Unit := ()
def PySem.W.Fast.tw17781871900056083043 : Unit := ()
def PySem.W.Fast.tw3559135497510786544 : Unit := ()
def PySem.W.Fast.tw9529212516526455954 : Unit := ()
def PySem.W.Fast.tw11190076657394059747 : Unit := ()
def PySem.W.Fast.tw13696161944378746333 : Unit := ()
def PySem.W.Fast.tw5362583957888684131 : Unit := ()
def PySem.W.Fast.tw13524298911242310035 : Unit := ()
def PySem.W.Fast.tw4519235435811015570 : Unit := ()
def PySem.W.Fast.tw7275982611577525184 : Unit := ()
def PySem.W.Fast.tw5561265526510715368 : Unit := ()
def PySem.W.Fast.tw17262843897463959948 : Unit := ()
def PySem.W.Fast.tw3447302785557763971 : Unit := ()
def PySem.W.Fast.tw171814940923529905 : Unit := ()
def PySem.W.Fast.tw9131016004160020326 : Unit := ()
def PySem.W.Fast.tw10364661687035735886 : Unit := ()
def PySem.W.Fast.tw8401481597011878159 : Unit := ()
def PySem.W.Fast.tw8936766453759142580 : Unit := ()
def PySem.W.Fast.tw6472213615643140432 : Unit := ()
def PySem.W.Fast.tw8325100555892915487 : Unit := ()
def PySem.W.Fast.tw13575715650371257845 : Unit := ()
def PySem.W.Fast.tw10696688409893921512 : Unit := ()
def PySem.W.Fast.tw4847772022092262882 : Unit := ()
def PySem.W.Fast.tw15502202495096086710 : Unit := ()
def PySem.W.Fast.tw5512285737442728871 : Unit := ()
def PySem.W.Fast.tw8684096958362895881 : Unit := ()
def PySem.W.Fast.tw5607738464461934623 : Unit := ()
def PySem.W.Fast.tw17015701439164582024 : Unit := ()
def PySem.W.Fast.tw10718551025365074755 : Unit := ()
def PySem.W.Fast.tw16663713748585019347 : Unit := ()
def PySem.W.Fast.tw17072026662021048923 : Unit := ()
def PySem.W.Fast.tw14478231035893669290 : Unit := ()
def PySem.W.Fast.tw8989100138660109606 : Unit := ()
def PySem.W.Fast.tw9672076511102037944 : Unit := ()
def PySem.W.Fast.tw10794097491159503450 : Unit := ()
def PySem.W.Fast.tw1109733860064096609 : Unit := ()
def PySem.W.Fast.tw3913799323711545113 : Unit := ()
def PySem.W.Fast.tw4055656224212851499 : Unit := ()
def PySem.W.Fast.tw2983147013469760085 : Unit := ()
def PySem.W.Fast.tw12138247091486844482 : Unit := ()
def PySem.W.Fast.tw1461356228668184487 : Unit := ()
def PySem.W.Fast.tw7596416051748214628 : Unit := ()
def PySem.W.Fast.tw6981693346192223603 : Unit := ()
def PySem.W.Fast.tw8385351562335084471 : Unit := ()
def PySem.W.Fast.tw7212202801836255593 : Unit := ()
def PySem.W.Fast.tw14697187927142951721 : Unit := ()
def PySem.W.Fast.tw3144999887713967190 : Unit := ()
def PySem.W.Fast.tw10467732992571839724 : Unit := ()
def PySem.W.Fast.tw6619657393551351264 : Unit := ()
def PySem.W.Fast.tw148378197354987498 : Unit := ()
def PySem.W.Fast.tw5928047188562667148 : Unit := ()
def PySem.W.Fast.tw15549181568386353976 : Unit := ()
def PySem.W.Fast.tw14168585600222208803 : Unit := ()
def PySem.W.Fast.tw7623619163518078996 : Unit := ()
def PySem.W.Fast.tw13365606468590980388 : Unit := ()
def PySem.W.Fast.tw4436000158598091568 : Unit := ()
def PySem.W.Fast.tw14548192870201944061 : Unit := ()
def PySem.W.Fast.tw6096432352084967874 : Unit := ()
def PySem.W.Fast.tw14082523978049584033 : Unit := ()
def PySem.W.Fast.tw16097633380573521912 : Unit := ()
def PySem.W.Fast.tw4028816527778159744 : Unit := ()
def PySem.W.Fast.tw14683722738228351813 : Unit := ()
def PySem.W.Fast.tw630824691225894289 : Unit := ()
def PySem.W.Fast.tw17456491103499827845 : Unit := ()
def PySem.W.Fast.tw6745569822035933037 : Unit := ()
def PySem.W.Fast.tw16417940336338702661 : Unit := ()
def PySem.W.Fast.tw429220337926370256 : Unit := ()
def PySem.W.Fast.tw14752369129128034721 : Unit := ()
def PySem.W.Fast.tw4423311606340539687 : Unit := ()
def PySem.W.Fast.tw5651164690862800277 : Unit := ()
def PySem.W.Fast.tw12278631242767397409 : Unit := ()
def PySem.W.Fast.tw12635509548931988138 : Unit := ()
def PySem.W.Fast.tw9585636239509031010 : Unit := ()
def PySem.W.Fast.tw17897415295407545103 : Unit := ()
def PySem.W.Fast.tw6580174881989377007 : Unit := ()
def PySem.W.Fast.tw12669335139761454440 : Unit := ()
def PySem.W.Fast.tw16254252321089001588 : Unit := ()
def PySem.W.Fast.tw6400100728833334203 : Unit := ()
def PySem.W.Fast.tw12359343588040000188 : Unit := ()
def PySem.W.Fast.tw17038838239801640070 : Unit := ()
def PySem.W.Fast.tw2080825913458858276 : Unit := ()
def PySem.W.Fast.tw496742723596529255 : Unit := ()
def PySem.W.Fast.tw12317859178534559073 : Unit := ()
def PySem.W.Fast.tw1223490627867897595 : Unit := ()
def PySem.W.Fast.tw1657732278148373431 : Unit := ()
def PySem.W.Fast.tw3464667987499320475 : Unit := ()
def PySem.W.Fast.tw10545824665842432701 : Unit := ()
def PySem.W.Fast.tw763998759250682848 : Unit := ()
def PySem.W.Fast.tw3200853773764371293 : Unit := ()
def PySem.W.Fast.tw2665239083782831316 : Unit := ()
def PySem.W.Fast.tw8057607082746603802 : Unit := ()
def PySem.W.Fast.tw3436554876970500382 : Unit := ()
def PySem.W.Fast.tw2944137034837477613 : Unit := ()
def PySem.W.Fast.tw14553071561966748968 : Unit := ()
def PySem.W.Fast.tw311957406241858107 : Unit := ()
def PySem.W.Fast.tw10153413604193105829 : Unit := ()
def PySem.W.Fast.tw7260014524308789519 : Unit := ()
def PySem.W.Fast.tw15306327716299557131 : Unit := ()
def PySem.W.Fast.tw3115374656675698539 : Unit := ()
def PySem.W.Fast.tw15479439352553375474 : Unit := ()
def PySem.W.Fast.tw17794318058818914351 : Unit := ()
def PySem.W.Fast.tw3378835547711267173 : Unit := ()
def PySem.W.Fast.tw11218243037415160698 : Unit := ()
def PySem.W.Fast.tw7543855308561950344 : Unit := ()
def PySem.W.Fast.tw10380391839115065453 : Unit := ()
def PySem.W.Fast.tw11123328731902744793 : Unit := ()
def PySem.W.Fast.tw6414814515477066170 : Unit := ()
def PySem.W.Fast.tw4966160612539801815 : Unit := ()
def PySem.W.Fast.tw7524658701380384771 : Unit := ()
def PySem.W.Fast.tw4121626468435137114 : Unit := ()
def PySem.W.Fast.tw8478915313979701677 : Unit := ()
def PySem.W.Fast.tw16693849906599919004 : Unit := ()
def PySem.W.Fast.tw5297355694685434242 : Unit := ()
def PySem.W.Fast.tw16284837624223539526 : Unit := ()
def PySem.W.Fast.tw13325398978048355288 : Unit := ()
def PySem.W.Fast.tw16117517167615569668 : Unit := ()
def PySem.W.Fast.tw16562354022341017419 : Unit := ()
def PySem.W.Fast.tw16390714701831093497 : Unit := ()
def PySem.W.Fast.tw16172836637883869352 : Unit := ()
def PySem.W.Fast.tw987548194064696796 : Unit := ()
def PySem.W.Fast.tw12619530570093739077 : Unit := ()
def PySem.W.Fast.tw18375020606001477123 : Unit := ()
def PySem.W.Fast.tw8920306264583780142 : Unit := ()
def PySem.W.Fast.tw272860456307735627 : Unit := ()
def PySem.W.Fast.tw7174683235757992185 : Unit := ()
def PySem.W.Fast.tw9120921480282677407 : Unit := ()
def PySem.W.Fast.tw17691389203268429321 : Unit := ()
def PySem.W.Fast.tw14917586593133152231 : Unit := ()
def PySem.W.Fast.tw4990538213472282340 : Unit := ()
def PySem.W.Fast.tw13623791393147180726 : Unit := ()
def PySem.W.Fast.tw4762623477844869846 : Unit := ()
def PySem.W.Fast.tw10189796518425109040 : Unit := ()
def PySem.W.Fast.tw3751988917143405655 : Unit := ()
def PySem.W.Fast.tw41614246700288948 : Unit := ()
def PySem.W.Fast.tw12209475979535542817 : Unit := ()
def PySem.W.Fast.tw1207207858075486288 : Unit := ()
def PySem.W.Fast.tw12770753149887062646 : Unit := ()
def PySem.W.Fast.tw9670401895592600084 : Unit := ()
def PySem.W.Fast.tw8042892674055792059 : Unit := ()
def PySem.W.Fast.tw408367451959041134 : Unit := ()
def PySem.W.Fast.tw1059852385171456690 : Unit := ()
def PySem.W.Fast.tw6046291793628484547 : Unit := ()
def PySem.W.Fast.tw12777859904159378208 : Unit := ()
def PySem.W.Fast.tw9237985543984848642 : Unit := ()
def PySem.W.Fast.tw2880582848848962065 : Unit := ()
def PySem.W.Fast.tw9352387494342136780 : Unit := ()
def PySem.W.Fast.tw15161323913095718041 : Unit := ()
def PySem.W.Fast.tw10954592466799781663 : Unit := ()
def PySem.W.Fast.tw10870023750050992697 : Unit := ()
def PySem.W.Fast.tw14793410651204217840 : Unit := ()
def PySem.W.Fast.tw12557685534082179458 : Unit := ()
def PySem.W.Fast.tw1682259083436942122 : Unit := ()
def PySem.W.Fast.tw17229164946186983499 : Unit := ()
def PySem.W.Fast.tw17916810361410240854 : Unit := ()
def PySem.W.Fast.tw13358356843687788468 : Unit := ()
def PySem.W.Fast.tw4901484087695365162 : Unit := ()
def PySem.W.Fast.tw9364034128433207930 : Unit := ()
def PySem.W.Fast.tw11205055722830044835 : Unit := ()
def PySem.W.Fast.tw613829693149476070 : Unit := ()
def PySem.W.Fast.tw5008527068823309705 : Unit := ()
def PySem.W.Fast.tw6009958590499626196 : Unit := ()
def PySem.W.Fast.tw5802618289543448881 : Unit := ()
def PySem.W.Fast.tw15964751443843833161 : Unit := ()
open PySem PySem.W PyProof.Rows
set_option maxRecDepth 100000 in
set_option maxHeartbeats 0 in
theorem PySem.Challenge.cw_tapeproof_k60_least_rounds_holds : PySem.Challenge.rw_tapeproof_k60_least_rounds.Holds := by
  w_on; o_law; z_head; (case hw=>w_witness2)
  k_fill
  refine V.walkX_of (fun P=>?E) (V.walk (l:=PySem.Challenge.rw_tapeproof_k60_least_rounds) [31,44,0,0,0,0,0,56,68,0,0,125,216,0,624] rfl rfl rfl (fun w h Y=>Y) ?F L3.law_true)
  case E=>kernel_rfl
  case F =>
    intro w mg h KX G
    refine' V.z_mk KX G ?_ ?_ ?_ ?_ ?_ ?_ ?_ ?_ ?_ ?_ ?_ ?_ ?_ ?_ ?_ ?_ ?_ ?_ ?_ ?_ ?_ ?_ ?_ ?_ ?_ ?_ ?_ ?_ ?_ ?_ ?_ ?_ ?_ ?_ ?_ ?_ ?_ ?_ ?_ ?_ ?_ ?_ ?_ ?_ ?_ ?_ ?_ ?_ ?_ ?_ ?_ ?_ ?_ ?_ ?_ ?_ ?_ ?_ ?_ ?_ ?_ ?_ ?_ ?_ ?_ ?_ ?_ ?_ ?_ ?_ ?_ ?_ ?_ ?_ ?_ ?_ ?_ ?_ ?_ ?_ ?_ ?_ ?_ ?_ ?_ ?_ ?_ ?_ ?_ ?_ ?_ ?_ ?_ ?_ ?_ ?_ ?_ ?_ ?_ ?_ ?_ ?_ ?_ ?_ ?_ ?_ ?_ ?_ ?_ ?_ ?_ ?_ ?_ ?_ ?_ ?_ ?_ ?_ ?_ ?_ ?_ ?_ ?_ ?_
    rotate_right 124
    iterate 7 (focus k_is)
    iterate 27 (focus (refine' V.fa_mk ?_ ?_ ?_ ?_; rotate_right 4; iterate 4 focus k_is))
    iterate 19 (focus k_is)
    iterate 1 (focus kernel_rfl)
    iterate 5 (focus k_is)
    iterate 1 (focus kernel_rfl)
    iterate 5 (focus k_is)
    iterate 1 (focus kernel_rfl)
    iterate 5 (focus k_is)
    iterate 1 (focus kernel_rfl)
    iterate 5 (focus k_is)
    iterate 1 (focus kernel_rfl)
    iterate 5 (focus k_is)
    iterate 1 (focus kernel_rfl)
    iterate 5 (focus k_is)
    iterate 1 (focus kernel_rfl)
    iterate 5 (focus k_is)
    iterate 1 (focus kernel_rfl)
    iterate 18 (focus k_is)
    iterate 1 (focus kernel_rfl)
    iterate 4 (focus k_is)
    iterate 5 (focus kernel_rfl)
