import PyProof.Rows.All
import Wide.All
import OpenK.AllK
import Wide.FinOn
import Lean
import PyProof.EqAt
import PyProof.EqKinds
import PyProof.TupleCall
import PySem.Challenge.RW_tapeproof_k71_spoilt_texts
local macro_rules | `(tactic| omega) => `(tactic| lia)
set_option Elab.async false
set_option linter.all false
set_option maxRecDepth 100000
abbrev Ua:=@PySem.wpAny_bind
abbrev Ub:=@PySem.Heap.get?_push_of_some
abbrev Uc:=@List.length_map
abbrev Ud:=@Bool.false_ne_true
abbrev Ue:=@List.getElem?_eq_getElem
abbrev Uf:=@if_pos
abbrev Ug:=@List.mem_singleton
abbrev Uh:=@if_neg
abbrev Ui:=@List.getElem?_eq_some_iff
abbrev Uj:=@List.mem_cons_of_mem
abbrev Uk:=@PySem.wpAny_pure
abbrev Ul:=@Nat.le_refl
abbrev Um:=@PySem.Heap.lt_size
abbrev Uo:=@Nat.le_trans
abbrev Up:=@List.mem_cons_self
abbrev Uq:=@beq_eq_false_iff_ne
abbrev Ur:=@PySem.Heap.get?_push_size
abbrev Us:=@List.size_toArray
abbrev Ut:=@List.getElem_mem
abbrev Uu:=@List.mem_append_right
abbrev Uv:=@Nat.lt_of_lt_of_le
abbrev Uw:=@decide_eq_false
abbrev Ux:=@List.all_eq_true
abbrev Uy:=@List.getElem?_set_ne
abbrev Uz:=@List.length_cons
abbrev UA:=@List.getElem?_map
abbrev UB:=@List.mem_append
abbrev UC:=@Bool.and_eq_true
abbrev UD:=@List.length_append
abbrev UE:=@List.getElem?_append_left
abbrev UG:=@List.mem_cons
abbrev UH:=@List.getElem?_append_right
abbrev UI:=@PySem.W.mg_none_of
abbrev UJ:=@PySem.W.mg_of
abbrev UK:=@Nat.ne_of_lt
abbrev UL:=@decide_eq_true
abbrev UM:=@PySem.wpAny_mono
abbrev UN:=@Array.getElem?_eq_some_iff
abbrev UO:=@List.map_cons
abbrev UP:=@beq_self_eq_true
abbrev UQ:=@PySem.W.kia_one
abbrev UR:=@List.length_set
abbrev US:=@PySem.wpAny_field
abbrev UT:=@beq_iff_eq
abbrev UU:=@List.map_append
abbrev UV:=@List.getElem_map
abbrev UW:=@List.mem_map
abbrev UX:=@Int.toNat_natCast
abbrev UY:=@List.mem_append_left
abbrev UZ:=@List.getElem?_eq_none_iff
abbrev U0:=@List.getElem?_set_self
abbrev U1:=@PySem.Heap.get?_update_other
abbrev U2:=@Int.emod_lt_of_pos
abbrev U3:=@List.length_take
abbrev U4:=@List.length_replicate
abbrev U5:=@of_decide_eq_true
abbrev U6:=@List.append_nil
abbrev U7:=@Int.emod_nonneg
abbrev U8:=@PySem.F.excBase_ValueError
abbrev U9:=@PySem.wpAny_holding
abbrev Ta:=@List.getElem?_eq_none
abbrev Tc:=@PySem.sizeLine_eq
abbrev Td:=@List.length_drop
abbrev Te:=@Option.isSome_iff_exists
abbrev Tf:=@PySem.W.looks_findIn
abbrev Tg:=@List.mem_of_mem_drop
abbrev Th:=@PySem.Heap.size_push
abbrev Ti:=@PySem.wpAny_truthy_bool
abbrev Tj:=@List.filterMap_cons
abbrev Tk:=@Array.length_toList
abbrev Tm:=@PySem.mem_of_lookup
abbrev Tn:=@List.replicate_succ
abbrev To:=@PyProof.Rows.callWith_type1
abbrev Tp:=@Nat.lt_succ_self
abbrev Tq:=@PySem.F.slot_tuple_iterator_next
abbrev Tr:=@PySem.wpAny_setField_rec
abbrev Tt:=@PySem.wpAny_seqItems
abbrev Tu:=@List.set_eq_take_append_cons_drop
abbrev Tv:=@List.mem_or_eq_of_mem_set
abbrev Tw:=@List.getElem_append_right
abbrev Tx:=@List.take_succ_eq_append_getElem
abbrev Tz:=@List.mem_of_getElem?
abbrev TB:=@decide_eq_true_eq
abbrev TC:=@List.map_map
abbrev TD:=@Nat.lt_irrefl
abbrev TF:=@PySem.wpAny_standAt
abbrev TH:=@List.any_cons
abbrev TJ:=@List.getElem?_replicate
abbrev TK:=@PySem.wpAny_callSpecial?_slot
abbrev TL:=@List.cons_ne_nil
abbrev TM:=@Bool.false_and
abbrev TN:=@PySem.F.slot_str_split
abbrev TQ:=@Array.append_assoc
abbrev TR:=@PySem.Obj.data_mapFields
abbrev TU:=@congrArg
abbrev TV:=@Nat.le_of_lt
abbrev TW:=@Bool.eq_iff_iff
abbrev TX:=@List.find?_cons
abbrev TY:=@PySem.Heap.get?_update_self
abbrev TZ:=@List.append_assoc
abbrev T0:=@PySem.wpAny_loadPart_at
abbrev T1:=@PySem.StrLaws.subAt_one
abbrev T3:=@PySem.Heap.get?_none_of_le
abbrev T4:=@PySem.Calls.evalArgs_plain
abbrev T5:=@List.getElem?_of_mem
abbrev T6:=@PySem.codeAny_call_builtin
abbrev T7:=@Bool.and_eq_true_iff
abbrev T8:=@PySem.wpAny_setField
abbrev T9:=@List.take_length
abbrev Ra:=@Nat.ne_of_gt
abbrev Rb:=@Bool.or_eq_true_iff
abbrev Rc:=@List.getElem_of_mem
abbrev Re:=@List.map_eq_nil_iff
abbrev Rf:=@PySem.F.args_tuple_add_2
abbrev Rg:=@PySem.F.args_str_split_2
abbrev Rh:=@List.getElem_append_left
abbrev Ri:=@Bool.true_and
abbrev Rj:=@PySem.wpAny_passesOwn
abbrev Rk:=@PyProof.Rows.boot_isinstance
abbrev Rl:=@PySem.wpAny_Call_Name_kw
abbrev Rm:=@Bool.false_eq_true
abbrev Rn:=@List.map_singleton
abbrev Ro:=@PySem.F.entry_tuple_add
abbrev Rq:=@PySem.F.entry_str_split
abbrev Rr:=@List.getElem?_cons_succ
abbrev Rs:=@List.getElem?_cons_zero
abbrev Rt:=@PySem.wpAny_call
abbrev Ru:=@PySem.F.slot_tuple_add
abbrev Rv:=@Option.map_eq_some_iff
abbrev Rw:=@List.take_of_length_le
abbrev Rx:=@PySem.wpAny_newObj_type
abbrev Ry:=@List.mem_range
abbrev Rz:=@PySem.plainObj_wpAny_Assign_Attribute
abbrev RA:=@List.map_set
abbrev RB:=@List.length_singleton
abbrev RC:=@Array.eq_empty_of_size_eq_zero
abbrev RD:=@Nat.le_of_not_lt
abbrev RE:=@PySem.wpAny_call_entry
abbrev RF:=@List.filter_cons
abbrev RG:=@List.cons_append
abbrev RH:=@PySem.call_meets
abbrev RI:=@PySem.wpAny_updateSeq_pair
abbrev RJ:=@PySem.wpAny_attempt
abbrev RK:=@List.mem_of_mem_take
abbrev RL:=@PySem.F.args_tuple_iterator_next_1
abbrev RM:=@PySem.wpAny_of_eq
abbrev RN:=@List.nodup_cons
abbrev RO:=@List.forIn_cons
abbrev RP:=@PySem.F.slot_zip_next
abbrev RQ:=@List.nil_append
abbrev RS:=@PySem.W.looks_clsIn
abbrev RT:=@PySem.W.looks_subIn
abbrev RU:=@Array.toList_append
abbrev RV:=@ne_true_of_eq_false
abbrev RW:=@PySem.F.entry_tuple_iterator_next
abbrev RX:=@PySem.codeAny_mono
abbrev RY:=@PySem.Calls.Name_function_global
abbrev RZ:=@PySem.F.slot_str_partition
abbrev R0:=@List.mem_filterMap
abbrev Wa:=@PySem.wpAny_loadPart
abbrev Wb:=@List.forIn_nil
abbrev Wc:=@PySem.typeIs_str
abbrev Wd:=@if_true
abbrev We:=@PySem.W.kitx_list
abbrev Wf:=@PySem.Obj.cls_mapFields
abbrev Wg:=@PySem.wpAny_pyIter_list
abbrev Wh:=@Bool.not_eq_true'
abbrev Wi:=@List.getElem_take
abbrev Wj:=@List.getElem?_take_of_lt
abbrev Wl:=@PySem.F.slot_list_insert
abbrev Wm:=@List.all_cons
abbrev Wn:=@PySem.wpAny_onRaise
abbrev Wo:=@PySem.F.plainAttrs_list
abbrev Wp:=@PySem.F.attr_ValueError
abbrev Wq:=@List.getElem_inj
abbrev Wr:=@PySem.noFill_tuple_add
abbrev Ws:=@List.ext_getElem
abbrev Wt:=@PySem.W.cellsFrom_some
abbrev Ww:=@List.set_set
abbrev Wx:=@PySem.wpAny_execs_nil
abbrev Wy:=@List.of_mem_zip
abbrev Wz:=@Nat.min_eq_left
abbrev WB:=@PySem.F.entry_bexc_ga
abbrev WD:=@List.take_append_drop
abbrev WE:=@Array.getElem?_toList
abbrev WF:=@List.singleton_append
abbrev WH:=@Array.toArray_toList
abbrev WI:=@PySem.wpAny_letGo
abbrev WK:=@if_false
abbrev BB:=@Nat.zero_le
open PySem.W (Frag InitBack KitX Looks any_some bind_fn callWith_K callWith_of cellsFrom_some check_slot class_get clsIn cls_value codeIn codeRec_of emptyDict eq_bytes excIn findCls findIn findObj findObj_own fnOf get_value handedIn handedOut_of hasDictIn hideAll hideAll_get hideAll_none hideAll_size instObj isFn isNs_of_in keepIn ki_setAt ki_setBack kia_one kia_tup kitAny kitOne kitx_bool kitx_dict kitx_float kitx_int kitx_list kitx_none kitx_own kitx_str kitx_tuple lookIn looks_clsIn looks_find looks_findIn looks_mroIn looks_subIn looks_typeIn make_core makesIn makes_of methodCall_KW methodObj method_cls mg_none_of mg_of mroIn ne_bytes notCls nsIn nsMap_none_of_in nsOkIn of_hideAll osa_eq osa_open plainGet plainGet_of plainOver readsIn set_plain specialIn subIn tailIn tail_of_in takerIn takesIn typeIn)
namespace L2
open PySem PySem.Spec PyProof.Rows
section
noncomputable abbrev Key:=Sum Int Str
noncomputable def QhR:Key->Value->Bool
 |.inl k,v=>Value.isInt k v
 |.inr x,v=>Value.isStrOf x v
noncomputable def keyH(w:World):Key->Int
 |.inl k=>hashInt k
 |.inr x=>hashStr w x
theorem QT:∀{k:Key}{v:Value},QhR k v=true->(∃i t,k=Sum.inl i/\v=Value.int i t)\/(∃x t,k=Sum.inr x/\v=Value.str x t)
 |.inl i,v,h=>by
  obtain⟨t,e⟩:=Value.isInt_shape (k:=i) (v:=v) h
  exact .inl ⟨i,t,rfl,e⟩
 |.inr x,v,h=>by
  obtain⟨t,e⟩:=Value.isStrOf_shape (x:=x) (v:=v) h
  exact .inr ⟨x,t,rfl,e⟩
theorem QhS(a b:Int):decide ((Sum.inl a:Key)=Sum.inl b)=(a == b):=by
 by_cases e:a=b
 ·subst e;simp
 ·have h:¬(Sum.inl a:Key)=Sum.inl b:=λq=>e (Sum.inl.inj q)
  rw[Uw h]
  exact(Uq.mpr e).symm
theorem QhT(a b:Str):decide ((Sum.inr a:Key)=Sum.inr b)=decide (a=b):=by
 by_cases e:a=b
 ·subst e;simp
 ·have h:¬(Sum.inr a:Key)=Sum.inr b:=λq=>e (Sum.inr.inj q)
  rw[Uw h,Uw e]
theorem QhU(a:Int)(b:Str):decide ((Sum.inl a:Key)=Sum.inr b)=false:=Uw (λq=>nomatch q)
theorem QhV(a:Str)(b:Int):decide ((Sum.inr a:Key)=Sum.inl b)=false:=Uw (λq=>nomatch q)
noncomputable def QdH(prog:Program)(w:World):PySem.KeyKind prog w Key where
 is:=QhR
 hash:=keyH w
 inj:=λv a b ha hb=>by
  rcases QT ha with⟨i,t,rfl,rfl⟩|⟨x,t,rfl,rfl⟩
  ·rcases QT hb with⟨j,u,rfl,e⟩|⟨y,u,rfl,e⟩
   ·injection e with e1 _;rw[e1]
   ·exact nomatch e
  ·rcases QT hb with⟨j,u,rfl,e⟩|⟨y,u,rfl,e⟩
   ·exact nomatch e
   ·injection e with e1 _;rw[e1]
 byValue:=λk v h=>by
  rcases QT h with⟨i,t,rfl,rfl⟩|⟨x,t,rfl,rfl⟩ <;> rfl
 pyHash:=λhv h=>by
  rcases QT hv with⟨i,t,rfl,rfl⟩|⟨x,t,rfl,rfl⟩
  ·exact wpAny_pyHash_int h
  ·exact wpAny_pyHash_str h
 eqBool:=λhu hv h=>by
  rcases QT hu with⟨i,t,rfl,rfl⟩|⟨x,t,rfl,rfl⟩
  ·rcases QT hv with⟨j,u,rfl,rfl⟩|⟨y,u,rfl,rfl⟩
   ·rw[QhS]at h;exact wpAny_eqBool_int h
   ·rw[QhU]at h;exact SeqAt.EqAt.int_str i t y u _ _ _ _ h
  ·rcases QT hv with⟨j,u,rfl,rfl⟩|⟨y,u,rfl,rfl⟩
   ·rw[QhV]at h;exact SeqAt.EqAt.str_int x t j u _ _ _ _ h
   ·rw[QhT]at h;exact wpAny_eqBool_str h
 «strs»:=λk x t v h=>by
  rcases QT h with⟨i,u,rfl,e⟩|⟨y,u,rfl,e⟩
  ·exact nomatch e
  ·injection e with e1 _
   subst e1
   cases v <;> rfl
end
section
inductive V where
 |non|bl (b:Bool)|int (i:Int)|str (x:Str)|byt (b:Array UInt8)|flt (b:UInt64)|ref (a:Addr)|ty (n:String)
 deriving DecidableEq
noncomputable def RelV:V->Value->Prop
 |.non,u=>u=Value.none
 |.bl b,u=>u=Value.bool b
 |.int i,u=>∃t,u=Value.int i t
 |.str x,u=>∃t,u=Value.str x t
 |.byt b,u=>∃t,u=Value.bytes b t
 |.flt b,u=>∃t,u=Value.float b t
 |.ref a,u=>u=Value.ref a
 |.ty n,u=>u=Value.type n
noncomputable abbrev Vals:List V->List Value->Prop:=Paired RelV
theorem Vals.length{xs:List V}{us:List Value}(r:Vals xs us):xs.length=us.length:=Paired.length r
theorem Vals.get:∀{xs:List V}{us:List Value}{i:Nat}{x:V},Vals xs us->xs[i]?=some x->∃u,us[i]?=some u/\RelV x u
 |_,_,_,_,.nil,e=>by simp at e
 |_,_,0,_,.cons r _,e=>by simp at e;subst e;exact⟨_,rfl,r⟩
 |_,_,i+1,x,.cons _ t,e=>by
  obtain⟨u,h1,h2⟩:=Vals.get (i:=i) (x:=x) t (by simpa using e)
  exact⟨u,by simpa using h1,h2⟩
theorem Vals.set{x:V}{u:Value}(r:RelV x u):∀{xs:List V}{us:List Value}(i:Nat),Vals xs us->Vals (xs.set i x) (us.set i u)
 |_,_,_,.nil=>.nil
 |_,_,0,.cons _ t=>.cons r t
 |_,_,i+1,.cons q t=>.cons q (Vals.set r i t)
theorem Vals.append:∀{xs ys:List V}{us ws:List Value},Vals xs us->Vals ys ws->Vals (xs++ys) (us++ws)
 |_,_,_,_,.nil,s=>s
 |_,_,_,_,.cons r t,s=>.cons r (Vals.append t s)
theorem Vals.take:∀{xs:List V}{us:List Value}(n:Nat),Vals xs us->Vals (xs.take n) (us.take n)
 |_,_,0,_=>.nil
 |_,_,_+1,.nil=>.nil
 |_,_,n+1,.cons r t=>.cons r (Vals.take n t)
theorem Vals.drop:∀{xs:List V}{us:List Value}(n:Nat),Vals xs us->Vals (xs.drop n) (us.drop n)
 |_,_,0,r=>r
 |_,_,_+1,.nil=>.nil
 |_,_,n+1,.cons _ t=>Vals.drop n t
noncomputable def RelO:Option V->Option Value->Prop
 |some v,some u=>RelV v u
 |none,none=>True
 |_,_=>False
noncomputable def KV{κ:Type}:List (κ×V)->List (κ×Value)->Prop:=Paired λ(p:κ×V)(q:κ×Value)=>p.1=q.1/\RelV p.2 q.2
noncomputable def kV:Key->V
 |.inl i=>.int i
 |.inr x=>.str x
inductive HO where
 /-- a list -/
 |lst (xs:List V)
 /-- a tuple (never changes) -/
 |tup (xs:List V)
 /-- a dict whose keys are ints and texts;one whose keys are tuples of ints and texts (the empty one is both) -/
 |dK (kvs:List (Key×V))|dT (kvs:List (List Key×V))
 /-- a set of ints: its members,its size -/
 |set (S:Int->Bool) (n:Nat)
 /-- an instance of the class at C,its dict at dx,its attributes -/
 |ins (C dx:Addr) (fs:List (Str×V))
 /-- the dict of the instance at x -/
 |own (x:Addr)
 /-- the dict of an exception -/
 |xd (fs:List (Str×V))
 /-- a bound method,f of x -/
 |met (f x:Addr)
 /-- a range object lo,lo+1,.. below hi -/
 |rng (lo hi:Int)
 /-- a thing that is known to the object (the script;a dict while a loop walks it): read,never written while it is so -/
 |frz (o:Obj) (u:HO)
 /-- a code object's table -/
 |tbl (ps:Array Value)
 /-- any other thing,by what is true of its one object (a def of one's own: SetO a S n:=HO.ext λh=>..) -/
 |ext (φ:Heap->Prop)
noncomputable abbrev Hp:=Addr->Option HO
noncomputable def upd(H:Hp)(a:Addr)(o:HO):Hp:=λb=>if b=a then some o else H b
theorem Ql{H:Hp}{a:Addr}{o:HO}:upd H a o a=some o:=by unfold upd;rw[Uf rfl]
theorem Qh{H:Hp}{a b:Addr}{o:HO}(h:b≠a):upd H a o b=H b:=by unfold upd;rw[Uh h]
theorem QdI{H:Hp}{a b:Addr}{o u:HO}(h:H a=some o)(h':H b=some u)(d:o≠u):a≠b:=by
 intro e;subst e;rw[h]at h';exact d (Option.some.inj h')
theorem Qx{H:Hp}{a b:Addr}{o:HO}(h:H a=some o)(h':H b=none):a≠b:=by
 intro e;subst e;rw[h]at h';cases h'
def IsTupD(h:Heap)(a:Addr)(items:Array Value):Prop:=∃o,h.get? a=some o/\o.cls=.type "tuple" /\ o.dict=none/\∃n,o.data=.seq items n
theorem IsTupD.tup{h:Heap}{a:Addr}{items:Array Value}(x:IsTupD h a items):IsTup h a items:=let ⟨o,e,c,_,d⟩:=x;⟨o,e,c,d⟩
theorem IsTupD.new(h:Heap)(items:Array Value):IsTupD (h.push {cls:=.type "tuple",data:=.seq items}) h.objs.size items:=⟨_,Ur _ rfl,rfl,rfl,_,rfl⟩
section
variable(P:Program)(w:World)
noncomputable def ObjOk(H:Hp)(h:Heap)(a:Addr):HO->Prop
 |.lst xs=>xs.length<=sizeLine/\∃(its:List Value)(n:Nat),Vals xs its/\h.get? a=some {cls:=.type "list",data:=.seq its.toArray n}
 |.tup xs=>xs.length<=sizeLine/\∃its:List Value,Vals xs its/\IsTupD h a its.toArray
 |.dK kvs=>kvs.length<=sizeLine/\(a == sysModules)=false/\∃vs,KV kvs vs/\h.DictOf (QdH P w) a vs
 |.dT kvs=>kvs.length<=sizeLine/\(a == sysModules)=false/\∃xs:List (List Key×Addr×Value),
   Paired (λ(p:List Key×V)(q:List Key×Addr×Value)=>p.1=q.1/\H q.2.1=some (.tup (p.1.map kV))/\RelV p.2 q.2.2) kvs xs /\
   ∃o es ep,h.get? a=some o/\o.ExactDict/\o.data=.dict es ep/\es.toList=xs.map (entryOfKey (tupleKind (QdH P w)))/\(xs.map (·.1)).Nodup
 |.set S n=>h.SetOf (intKind P w) a S n
 |.ins C dx fs=>H dx=some (.own a)/\fs.length<=1000/\dx≠a/\h.get? a=some (instObj C dx) /\
   ∃mA,h.Ns1 dx mA/\(∀f,RelO (fs.lookup f) (mA f))/\PySem.Within mA (fs.map (·.1))
 |.own _=>∃o,h.get? a=some o
 |.xd fs=>∃mA,h.Ns1 a mA/\∀f,RelO (fs.lookup f) (mA f)
 |.rng lo hi=>∃t u v,h.get? a=some {cls:=.type "range",data:=.fields #[.int lo t,.int hi u,.int 1 v]}
 |.frz o u=>h.get? a=some o/\ObjOk H h a u
 |.tbl ps=>h.get? a=some {cls:=.none,data:=.fields ps}
 |.met f x=>h.get? a=some (methodObj (.ref f) (.ref x))
 |.ext φ=>φ h/\(∃o,h.get? a=some o)/\∀h1 h2:Heap,φ h1->(∀o,h1.get? a=some o->h2.get? a=some o)->φ h2
def HOk(H:Hp)(h:Heap):Prop:=∀a o,H a=some o->ObjOk P w H h a o
end
section
variable{P:Program}{w:World}{H H':Hp}{h h':Heap}{a:Addr}{o:HO}
theorem ObjOk.lt(x:ObjOk P w H h a o):a<h.objs.size:=by
 cases o with
 |lst xs=>obtain⟨_,_,_,_,e⟩:=x;exact Um e
 |tup xs=>obtain⟨_,_,_,p⟩:=x;exact p.tup.lt
 |dK kvs=>obtain⟨_,_,_,_,o,_,_,e,_⟩:=x;exact Um e
 |dT kvs=>obtain⟨_,_,_,_,o,_,_,e,_⟩:=x;exact Um e
 |set S n=>obtain⟨o,_,_,_,e,_⟩:=x;exact Um e
 |ins C dx fs=>obtain⟨_,_,_,e,_⟩:=x;exact Um e
 |own y=>obtain⟨_,e⟩:=x;exact Um e
 |xd fs=>obtain⟨_,⟨_,_,_,e,_⟩,_⟩:=x;exact Um e
 |rng lo hi=>obtain⟨_,_,_,e⟩:=x;exact Um e
 |frz ob u=>obtain⟨e,_⟩:=x;exact Um e
 |tbl ps=>exact Um (show h.get? a=some _ from x)
 |met f y=>exact Um (show h.get? a=some _ from x)
 |ext φ=>obtain⟨_,⟨_,e⟩,_⟩:=x;exact Um e
theorem Paired.mapP{α β:Type}{F G:α->β->Prop}:∀{l₁:List α}{l₂:List β},Paired F l₁ l₂->(∀a b,F a b->G a b)->Paired G l₁ l₂
 |_,_,.nil,_=>.nil
 |_,_,.cons r t,f=>.cons (f _ _ r) (Paired.mapP t f)
theorem Paired.imp'{α β:Type}{F G:α->β->Prop}(f:∀a b,F a b->G a b){l₁:List α}{l₂:List β}(r:Paired F l₁ l₂):Paired G l₁ l₂:=Paired.mapP r f
theorem ObjOk.stay(x:ObjOk P w H h a o)(k:∀b u,(b=a\/H b=some (.own a))->h.get? b=some u->h'.get? b=some u)(ho:∀b,H b=some (.own a)->H' b=some (.own a))(ht:∀b xs,H b=some (.tup xs)->H' b=some (.tup xs)):ObjOk P w H' h' a o:=by
 induction o with
 |lst xs=>obtain⟨z,its,n,r,e⟩:=x;exact⟨z,its,n,r,k _ _ (.inl rfl) e⟩
 |tup xs=>obtain⟨z,its,r,ob,e,c⟩:=x;exact⟨z,its,r,ob,k _ _ (.inl rfl) e,c⟩
 |dK kvs=>obtain⟨z,y,vs,r,ob,es,ep,e,c⟩:=x;exact⟨z,y,vs,r,ob,es,ep,k _ _ (.inl rfl) e,c⟩
 |dT kvs =>
  obtain⟨z,y,xs,r,ob,es,ep,e,c⟩:=x
  exact⟨z,y,xs,Paired.mapP r λp q z=>⟨z.1,ht _ _ z.2.1,z.2.2⟩,ob,es,ep,k _ _ (.inl rfl) e,c⟩
 |set S n=>obtain⟨ob,es,ep,t,e,c⟩:=x;exact⟨ob,es,ep,t,k _ _ (.inl rfl) e,c⟩
 |ins C dx fs =>
  obtain⟨d,z,ne,e,mA,⟨od,es,ep,e2,c⟩,r⟩:=x
  exact⟨ho _ d,z,ne,k _ _ (.inl rfl) e,mA,⟨od,es,ep,k _ _ (.inr d) e2,c⟩,r⟩
 |own y=>obtain⟨ob,e⟩:=x;exact⟨ob,k _ _ (.inl rfl) e⟩
 |xd fs=>obtain⟨mA,⟨od,es,ep,e,c⟩,r⟩:=x;exact⟨mA,⟨od,es,ep,k _ _ (.inl rfl) e,c⟩,r⟩
 |rng lo hi=>obtain⟨t,u,v,e⟩:=x;exact⟨t,u,v,k _ _ (.inl rfl) e⟩
 |frz ob u ih=>obtain⟨e,q⟩:=x;exact⟨k _ _ (.inl rfl) e,ih q⟩
 |tbl ps =>
  have e:h.get? a=some {cls:=.none,data:=.fields ps}:=x
  show h'.get? a=some {cls:=.none,data:=.fields ps}
  exact k a _ (.inl rfl) e
 |met f y =>
  have e:h.get? a=some (methodObj (.ref f) (.ref y)):=x
  show h'.get? a=some (methodObj (.ref f) (.ref y))
  exact k a _ (.inl rfl) e
 |ext φ=>obtain⟨p,⟨o,e⟩,st⟩:=x;exact⟨st _ _ p λo q=>k _ _ (.inl rfl) q,⟨o,k _ _ (.inl rfl) e⟩,st⟩
theorem HOk.lt(x:HOk P w H h)(e:H a=some o):a<h.objs.size:=(x a o e).lt
theorem HOk.fresh(x:HOk P w H h)(e:h.objs.size<=a):H a=none:=by
 cases q:H a with
 |none=>rfl
 |some u=>exact absurd (Uv (x.lt q) e) (TD _)
theorem HOk.kept(x:HOk P w H h)(k:∀b u,h.get? b=some u->h'.get? b=some u):HOk P w H h':=λa o e =>
 (x a o e).stay (λb u _ q=>k b u q) (λ_ q=>q) λ_ _ q=>q
theorem HOk.laid(x:HOk P w H h)(k:∀b u,h.get? b=some u->h'.get? b=some u)(hp:h.objs.size<=a)(new:ObjOk P w (upd H a o) h' a o):HOk P w (upd H a o) h':=λb u e=>by
 have hn:=x.fresh hp
 by_cases hb:b=a
 ·subst hb;rw[Ql]at e;cases e;exact new
 ·rw[Qh hb]at e
  exact(x b u e).stay (λc v _ q=>k c v q) (λc q=>by rw[Qh (Qx q hn)];exact q) λc xs q=>by rw[Qh (Qx q hn)];exact q
end
def Rd(H:Hp)(a:Addr)(u:HO):Prop:=H a=some u\/∃o,H a=some (.frz o u)
theorem Rd.of{H:Hp}{a:Addr}{u:HO}(h:H a=some u):Rd H a u:=.inl h
theorem Rd.ok{P:Program}{w:World}{H:Hp}{h:Heap}{a:Addr}{u:HO}(r:Rd H a u)(x:HOk P w H h):ObjOk P w H h a u:=by
 rcases r with r|⟨o,r⟩
 ·exact x a u r
 ·obtain⟨_,q⟩:=x a _ r
  exact q
noncomputable def Mut:Option HO->Prop
 |some (.lst _)=>True
 |some (.dK _)=>True
 |some (.dT _)=>True
 |some (.set _ _)=>True
 |some (.ins _ _ _)=>True
 |some (.ext _)=>True
 |_=>False
section
variable{P:Program}{w:World}{H:Hp}{h h':Heap}{x e:Addr}{o':HO}
theorem HOk.write(ok:HOk P w H h)(mu:Mut (H x))(he:e=x\/H e=some (.own x))(k:∀b u,b≠e->h.get? b=some u->h'.get? b=some u)(heo:∃u,h'.get? e=some u)(new:ObjOk P w (upd H x o') h' x o'):HOk P w (upd H x o') h':=λb u q=>by
 have nown:∀c y,H c=some (.own y)->c≠x:=λc y r z=>by subst z;rw[r]at mu;exact mu
 have ntup:∀c xs,H c=some (.tup xs)->c≠x:=λc xs r z=>by subst z;rw[r]at mu;exact mu
 by_cases hb:b=x
 ·subst hb;rw[Ql]at q;cases q;exact new
 ·rw[Qh hb]at q
  by_cases hbe:b=e
  ·have q':H b=some (.own x):=by
    rcases he with z|z
    ·exact absurd (hbe.trans z) hb
    ·rw[hbe];exact z
   rw[q]at q';cases q'
   obtain⟨v,hv⟩:=heo
   exact⟨v,by rw[hbe];exact hv⟩
  ·refine(ok b u q).stay (λc v hc r=>k c v ?_ r) (λc r=>by rw[Qh (nown c b r)];exact r) λc xs r=>by rw[Qh (ntup c xs r)];exact r
   rcases hc with rfl|hc
   ·exact hbe
   ·rintro rfl
    rcases he with z|z
    ·exact nown c b hc z
    ·rw[hc]at z;cases z;exact hb rfl
end
structure Un(fs ex:List Addr)(H H':Hp)(h h':Heap):Prop where
 keep:∀b o,h.get? b=some o->H b=none->b∉fs->b∉ex->h'.get? b=some o
 slot:∀b o,h.get? b=some o->H b=none->b∈fs->b∉ex->∃sl,h'.get? b=some {o with slots:=sl}
 free:∀b o,h.get? b=some o->H b=none->b∉ex->H' b=none
 there:∀b o,h.get? b=some o->b∉ex->∃o',h'.get? b=some o'
 tups:∀b xs,H b=some (.tup xs)->H' b=some (.tup xs)
 frzs:∀b o u,H b=some (.frz o u)->H' b=some (.frz o u)
 tbls:∀b ps,H b=some (.tbl ps)->∃more,H' b=some (.tbl (ps++more))
section
variable{fs fs' ex ex':List Addr}{H H1 H2:Hp}{h h1 h2 h':Heap}{a x e:Addr}{o:HO}
theorem Un.any(u:Un fs ex H H1 h h1){b:Addr}{ob:Obj}(q:h.get? b=some ob)(n:H b=none)(hx:b∉ex):∃sl,h1.get? b=some {ob with slots:=sl}:=by
 by_cases hb:b∈fs
 ·exact u.slot b ob q n hb hx
 ·exact⟨ob.slots,u.keep b ob q n hb hx⟩
theorem Un.trans(a:Un fs ex H H1 h h1)(b:Un fs ex H1 H2 h1 h2):Un fs ex H H2 h h2 where
 keep:=λc ob q n hc hx=>b.keep c ob (a.keep c ob q n hc hx) (a.free c ob q n hx) hc hx
 slot:=λc ob q n hc hx=>by
  obtain⟨sl,e1⟩:=a.slot c ob q n hc hx
  obtain⟨sl',e2⟩:=b.slot c _ e1 (a.free c ob q n hx) hc hx
  exact⟨sl',e2⟩
 free:=λc ob q n hx=>by
  obtain⟨o',e1⟩:=a.there c ob q hx
  exact b.free c o' e1 (a.free c ob q n hx) hx
 there:=λc ob q hx=>by
  obtain⟨o',e1⟩:=a.there c ob q hx
  exact b.there c o' e1 hx
 tups:=λc xs q=>b.tups c xs (a.tups c xs q)
 frzs:=λc ob xs q=>b.frzs c ob xs (a.frzs c ob xs q)
 tbls:=λc ps q=>by
  obtain⟨m1,e1⟩:=a.tbls c ps q
  obtain⟨m2,e2⟩:=b.tbls c _ e1
  exact⟨m1++m2,by rw[e2,TQ]⟩
theorem Un.kept(k:∀b u,h.get? b=some u->h'.get? b=some u):Un fs ex H H h h' :=
 ⟨λb ob q _ _ _=>k b ob q,λb ob q _ _ _=>⟨ob.slots,k b ob q⟩,λ_ _ _ n _=>n,λb ob q _=>⟨ob,k b ob q⟩,λ_ _ q=>q,λ_ _ _ q=>q,λ_ ps q=>⟨#[],by rw[q];simp⟩⟩
theorem Un.refl:Un fs ex H H h h:=Un.kept λ_ _ q=>q
theorem Un.laid(k:∀b u,h.get? b=some u->h'.get? b=some u)(hp:h.objs.size<=a)(hn:H a=none):Un fs ex H (upd H a o) h h' where
 keep:=λb u q _ _ _=>k b u q
 slot:=λb u q _ _ _=>⟨u.slots,k b u q⟩
 free:=λb u q n _=>by rw[Qh (UK (Uv (Um q) hp))];exact n
 there:=λb u q _=>⟨u,k b u q⟩
 tups:=λb xs q=>by rw[Qh (Qx q hn)];exact q
 frzs:=λb u xs q=>by rw[Qh (Qx q hn)];exact q
 tbls:=λb ps q=>⟨#[],by rw[Qh (Qx q hn),q];simp⟩
theorem Un.write(mu:Mut (H x))(he:e=x\/H e=some (.own x))(k:∀b u,b≠e->h.get? b=some u->h'.get? b=some u)(heo:∃u,h'.get? e=some u):Un fs ex H (upd H x o) h h':=by
 have hx:∀b,H b=none->b≠x:=λb n z=>by subst z;rw[n]at mu;exact mu
 have hb:∀b,H b=none->b≠e:=λb n z=>by
  subst z
  rcases he with r|r
  ·exact hx b n r
  ·rw[n]at r;cases r
 have hm:∀b u,H b=some u->¬Mut (some u)->b≠x:=λb u q nm z=>by subst z;rw[q]at mu;exact nm mu
 refine⟨λb u q n _ _=>k b u (hb b n) q,λb u q n _ _=>⟨u.slots,k b u (hb b n) q⟩,λb u q n _=>by rw[Qh (hx b n)];exact n,λb u q _=>?_,
  λb xs q=>by rw[Qh (hm b _ q λz=>z)];exact q,λb u xs q=>by rw[Qh (hm b _ q λz=>z)];exact q,λb ps q=>⟨#[],by rw[Qh (hm b _ q λz=>z),q];simp⟩⟩
 by_cases hbe:b=e
 ·subst hbe;exact heo
 ·exact⟨u,k b u hbe q⟩
theorem Un.mono(u:Un fs ex H H1 h h1)(hs:∀b∈fs,b∈fs')(hx:∀b∈ex,b∈ex'):Un fs' ex' H H1 h h1 :=
 ⟨λb ob q n hb he=>u.keep b ob q n (λz=>hb (hs b z)) λz=>he (hx b z),λ_ _ q n _ he=>u.any q n λz=>he (hx _ z),λb ob q n he=>u.free b ob q n λz=>he (hx b z),λb ob q he=>u.there b ob q λz=>he (hx b z),u.tups,u.frzs,u.tbls⟩
end
noncomputable def trk(h:Heap)(H:Hp):List Addr:=(List.range h.objs.size).filter λa=>(H a).isSome
noncomputable def hidT(h:Heap)(H:Hp):Heap:=hideAll h (trk h H)
theorem QdJ(h:Heap)(H:Hp):(hidT h H).objs.size=h.objs.size:=hideAll_size _ _
theorem Qfq{h:Heap}{H:Hp}{b:Addr}{o:Obj}(e:h.get? b=some o)(n:H b=none):(hidT h H).get? b=some o :=
 hideAll_get _ e λhm=>by
  have q:(H b).isSome=true:=(List.mem_filter.mp hm).2
  rw[n]at q;simp at q
theorem QgK{h:Heap}{H:Hp}{b:Addr}{o:Obj}(e:(hidT h H).get? b=some o):h.get? b=some o/\H b=none:=by
 have e':h.get? b=some o:=of_hideAll (trk h H) e
 refine⟨e',?_⟩
 cases q:H b with
 |none=>rfl
 |some x =>
  have hm:b∈trk h H:=List.mem_filter.mpr ⟨Ry.mpr (Um e'),by simp[q]⟩
  have z:(hidT h H).get? b=none:=hideAll_none (trk h H) hm
  rw[z]at e;cases e
noncomputable def QgL(g h:Heap)(L:Addr):List (Addr×Obj):=(List.range h.objs.size).filterMap λa=>if a=L\/(g.get? a).isSome=true then none else (h.get? a).map λo=>(a,o)
noncomputable def rest(g h:Heap)(L d:Addr):List (Addr×Obj):=(QgL g h L).filter λp=>decide (p.1≠d)
end
section
structure Mod(K:Frag)(mg:Str->Option Value)(base:Heap):Prop where
 kin:K.In base
 glob:base.Ns mainGlobals mg
 blt:∃mb,base.Ns builtinsNs mb/\∀x:Str,x ≠ "__name__" -> mb x=bootBuiltins x
 nolimit:base.NoLimit
/-- the context: a def's body (or a comprehension's block) running. base: fixed through the whole law;s₀,H₀: the entry;outer: the frames whose slots others may change (a def's callers);stack: all frames that run;
   ex: iterators that were made ahead of the entry and are walked here (a comprehension's);fn: the names whose cells were made at the entry (a def: all;a comprehension's block: its own);calm: not within an except suite;pn: pins that every state bears;xe: what is wanted of an exception that leaves the code -/
structure Cx where
 prog:Program
 w:World
 K:Frag
 mg:Str->Option Value
 base:Heap
 A:Around
 N:List Str
 s₀:Shared
 H₀:Hp
 env:Env
 outer:List Env
 stack:List Env
 ex:List Addr
 fn:Str->Bool
 calm:Bool
 pn:List (Addr×Obj)
 xe:Value->Shared->Prop
noncomputable def frs(l:List Env):List Addr:=l.filterMap (·.frame)
noncomputable abbrev Cx.fs(X:Cx):List Addr:=frs X.outer
def Vis(sc:Scope)(x:Str):Prop:=sc.names.lookup x=some .local\/sc.names.lookup x=some .cell\/sc.names.lookup x=some .free
def Loc(sc:Scope)(x:Str):Prop:=sc.names.lookup x=some .local\/sc.names.lookup x=some .cell
noncomputable def Look(env:Env)(h:Heap)(m:Str->Option Value)(x:Str)(u:Value):Prop :=
 (env.kindOf x=some .local/\m x=some u)\/((env.kindOf x=some .cell\/env.kindOf x=some .free)/\∃c,env.cells.lookup x=some c/\h.IsCell c (some u))
structure Cx.Ok(X:Cx):Prop where
 mod:Mod X.K X.mg X.base
 kind:X.env.scope.kind=.function
 glob:X.env.globals=mainGlobals
 blt:X.env.builtins=builtinsNs
 above:X.s₀.heap.objs.size<=X.env.locals
 inj:∀x y c,X.env.cells.lookup x=some c->X.env.cells.lookup y=some c->x=y
 has:∀x,(X.env.kindOf x=some .cell\/X.env.kindOf x=some .free)->∃c,X.env.cells.lookup x=some c
 cab:∀x c,X.fn x=true->X.env.cells.lookup x=some c->X.s₀.heap.objs.size<=c
 hd:X.calm=true->X.A.handled=none
 frames:X.A.frames=some X.stack
 stk:X.stack=X.outer\/(X.stack=X.env::X.outer/\X.env.frame=some X.env.locals)
 exf:∀b∈X.ex,b≠X.env.locals/\∀x c,X.env.cells.lookup x=some c->c≠b
 bs:∀b o,X.base.get? b=some o->X.s₀.heap.get? b=some o/\X.H₀ b=none
 bsz:X.base.objs.size<=X.s₀.heap.objs.size
 noex:∀b o,X.base.get? b=some o->b∉X.ex
 exfs:∀b∈X.ex,b∉X.fs
 funs:X.s₀.heap.FunFrames X.base X.outer
 frf:∀b∈X.fs,X.H₀ b=none
structure Inv(X:Cx)(pins:List (Addr×Obj))(σ:List (Option V))(H:Hp)(s:Shared):Prop where
 ok:X.Ok
 os:s.os=X.s₀.os
 bare:AllBare s.gens
 base:Un X.fs X.ex X.H₀ H X.s₀.heap s.heap
 loc:∃m,s.heap.Ns X.env.locals m/\∀(i:Nat)(x:Str)(v:V),X.N[i]?=some x->σ[i]?=some (some v)->Vis X.env.scope x->∃u,RelV v u/\Look X.env s.heap m x u
 cell:∀x c,X.env.cells.lookup x=some c->∃v,s.heap.IsCell c v
 free:H X.env.locals=none
 freeC:∀x c,X.env.cells.lookup x=some c->H c=none
 pin:∀p∈X.pn++pins,s.heap.get? p.1=some p.2/\H p.1=none/\p.1≠X.env.locals/\p.1∉X.fs/\∀v,p.2.data≠.cell v
 hok:HOk X.prog X.w H s.heap
 len:σ.length=X.N.length
section
variable{X:Cx}{pins:List (Addr×Obj)}{σ:List (Option V)}{H H':Hp}{s:Shared}{h':Heap}
theorem Cx.Ok.nofr(ok:X.Ok){b:Addr}{o:Obj}(e:X.base.get? b=some o):b∉X.fs:=λhb=>by
 have:=(ok.funs.mem hb).1
 rw[e]at this;cases this
theorem Inv.bs(I:Inv X pins σ H s):∀b o,X.base.get? b=some o->s.heap.get? b=some o/\H b=none:=λb o e =>
 ⟨I.base.keep b o (I.ok.bs b o e).1 (I.ok.bs b o e).2 (I.ok.nofr e) (I.ok.noex b o e),I.base.free b o (I.ok.bs b o e).1 (I.ok.bs b o e).2 (I.ok.noex b o e)⟩
theorem Inv.bk(I:Inv X pins σ H s):∀b o,X.base.get? b=some o->s.heap.get? b=some o:=λb o e=>(I.bs b o e).1
theorem Inv.mod(I:Inv X pins σ H s):Mod X.K X.mg X.base:=I.ok.mod
theorem Inv.kIn(I:Inv X pins σ H s):X.K.In s.heap:=I.ok.mod.kin.keeps I.bk
theorem Inv.nolimit(I:Inv X pins σ H s):s.heap.NoLimit:=I.ok.mod.nolimit.keeps I.bk
theorem Inv.fr(I:Inv X pins σ H s):∃m,Fr X.base X.env.locals s.heap m :=
 let ⟨m,hn,_⟩:=I.loc
 ⟨m,hn,I.bk,Uo I.ok.bsz I.ok.above⟩
theorem Inv.lt(I:Inv X pins σ H s):X.env.locals<s.heap.objs.size:=let ⟨_,hn,_⟩:=I.loc;hn.lt
theorem Inv.sz(I:Inv X pins σ H s):X.s₀.heap.objs.size<=s.heap.objs.size:=Uo I.ok.above (TV I.lt)
theorem Inv.nofs(I:Inv X pins σ H s){a:Addr}(h:s.heap.objs.size<=a):a∉X.fs:=λhb=>by
 obtain⟨_,o,ho,_⟩:=I.ok.funs.mem hb
 exact absurd (Uv (Um ho) (Uo I.sz h)) (TD _)
theorem Inv.cne(I:Inv X pins σ H s):∀x c,X.env.cells.lookup x=some c->c≠X.env.locals:=λx c e z=>by
 obtain⟨v,o,ho,hd⟩:=I.cell x c e
 obtain⟨m,⟨o',es,ep,ho',hd',_⟩,_⟩:=I.loc
 rw[z,ho']at ho;cases ho;rw[hd']at hd;cases hd
theorem Inv.funs(I:Inv X pins σ H s):s.heap.FunFrames X.base X.outer:=by
 have all:∀(l:List Env),(∀b∈frs l,b∈X.fs)->X.s₀.heap.FunFrames X.base l->s.heap.FunFrames X.base l:=by
  intro l
  induction l with
  |nil=>intro _ _;trivial
  |cons env r ih =>
   intro hs hl
   obtain⟨hk,⟨L,o,hf,hn,ho,hd⟩,hr⟩:=hl
   have hL:L∈X.fs:=hs L (by unfold frs;rw[Tj,hf];exact Up)
   obtain⟨sl,e⟩:=I.base.slot L o ho (I.ok.frf L hL) hL λz=>I.ok.exfs L z hL
   exact⟨hk,⟨L,_,hf,hn,e,hd⟩,ih (λb hb=>hs b (by unfold frs;rw[Tj,hf];exact Uj _ hb)) hr⟩
 exact all X.outer (λ_ hb=>hb) I.ok.funs
theorem Inv.stack(I:Inv X pins σ H s):s.heap.FunFrames X.base X.stack:=by
 rcases I.ok.stk with e|⟨e,hf⟩
 ·rw[e];exact I.funs
 ·rw[e]
  obtain⟨m,hn,_⟩:=I.loc
  refine .cons (by rw[I.ok.kind];decide) hf hn ?_ I.funs
  exact T3 (Uo I.ok.bsz I.ok.above)
theorem Inv.stkSub(I:Inv X pins σ H s):∀b∈frs X.stack,b∈X.env.locals::X.fs:=λb hb=>by
 rcases I.ok.stk with e|⟨e,hf⟩
 ·rw[e]at hb;exact Uj _ hb
 ·rw[e]at hb
  unfold frs at hb
  rw[Tj,hf]at hb
  exact hb
theorem Inv.stkFree(I:Inv X pins σ H s):∀b∈frs X.stack,H b=none:=λb hb=>by
 rcases UG.mp (I.stkSub b hb) with e|hb
 ·rw[e];exact I.free
 ·obtain⟨_,o,ho,_⟩:=I.ok.funs.mem hb
  exact I.base.free b o ho (I.ok.frf b hb) λz=>I.ok.exfs b z hb
theorem Inv.step{g':Array GenState}{t':Nat}{d':Drawn}{ch:List Addr}(I:Inv X pins σ H s)(hch:∀b∈ch,(b∈X.ex\/X.s₀.heap.objs.size<=b)/\b≠X.env.locals/\(∀x c,X.env.cells.lookup x=some c->c≠b)/\∀p∈X.pn++pins,p.1≠b)(keep:∀b o,b≠X.env.locals->b∉X.fs->b∉ch->s.heap.get? b=some o->H b=none->h'.get? b=some o)(slot:∀b o,b≠X.env.locals->b∈X.fs->b∉ch->s.heap.get? b=some o->H b=none->∃sl,h'.get? b=some {o with slots:=sl})(free:∀b o,b∉ch->s.heap.get? b=some o->H b=none->H' b=none)(there:∀b o,b∉ch->s.heap.get? b=some o->∃o',h'.get? b=some o')(tups:∀b xs,H b=some (.tup xs)->H' b=some (.tup xs))(frzs:∀b o u,H b=some (.frz o u)->H' b=some (.frz o u))(tbls:∀b ps,H b=some (.tbl ps)->∃more,H' b=some (.tbl (ps++more)))(ns:∀m,s.heap.Ns X.env.locals m->h'.Ns X.env.locals m)(hok:HOk X.prog X.w H' h')(hg:AllBare g'):
  Inv X pins σ H' {s with heap:=h',gens:=g',drawn:=d',toks:=t'}:=by
 have neL:∀b o,X.s₀.heap.get? b=some o->b≠X.env.locals:=λb o e=>UK (Uv (Um e) I.ok.above)
 have neC:∀b o,X.s₀.heap.get? b=some o->b∉X.ex->b∉ch:=λb o e hx hb=>by
  rcases(hch b hb).1 with z|z
  ·exact hx z
  ·exact absurd (Uv (Um e) z) (TD _)
 have cellK:∀x c,X.env.cells.lookup x=some c->∀v,s.heap.IsCell c v->h'.IsCell c v:=λx c e v ⟨o,ho,hd⟩=>by
  have nch:c∉ch:=λz=>(hch c z).2.2.1 x c e rfl
  by_cases hc:c∈X.fs
  ·obtain⟨sl,q⟩:=slot c o (I.cne x c e) hc nch ho (I.freeC x c e)
   exact⟨_,q,hd⟩
  ·exact⟨o,keep c o (I.cne x c e) hc nch ho (I.freeC x c e),hd⟩
 refine⟨I.ok,I.os,hg,⟨λb o e n hb hx=>?_,λb o e n hb hx=>?_,λb o e n hx=>?_,λb o e hx=>?_,λb xs e=>tups b xs (I.base.tups b xs e),λb o xs e=>frzs b o xs (I.base.frzs b o xs e),λb ps e=>?_⟩,?_,λx c e=>?_,?_,λx c e=>?_,λp hp=>?_,hok,I.len⟩
 ·exact keep b o (neL b o e) hb (neC b o e hx) (I.base.keep b o e n hb hx) (I.base.free b o e n hx)
 ·obtain⟨sl,e1⟩:=I.base.slot b o e n hb hx
  obtain⟨sl',e2⟩:=slot b _ (neL b o e) hb (neC b o e hx) e1 (I.base.free b o e n hx)
  exact⟨sl',e2⟩
 ·obtain⟨o',e1⟩:=I.base.there b o e hx
  exact free b o' (neC b o e hx) e1 (I.base.free b o e n hx)
 ·obtain⟨o',e1⟩:=I.base.there b o e hx
  exact there b o' (neC b o e hx) e1
 ·obtain⟨m1,e1⟩:=I.base.tbls b ps e
  obtain⟨m2,e2⟩:=tbls b _ e1
  exact⟨m1++m2,by rw[e2,TQ]⟩
 ·obtain⟨m,hn,hl⟩:=I.loc
  refine⟨m,ns m hn,λi x v e1 e2 e3=>?_⟩
  obtain⟨u,r,l⟩:=hl i x v e1 e2 e3
  refine⟨u,r,?_⟩
  rcases l with l|⟨k,c,e,z⟩
  ·exact .inl l
  ·exact .inr ⟨k,c,e,cellK x c e _ z⟩
 ·obtain⟨v,z⟩:=I.cell x c e
  exact⟨v,cellK x c e v z⟩
 ·obtain⟨m,⟨o,_,_,ho,_⟩,_⟩:=I.loc
  exact free _ o (λz=>(hch _ z).2.1 rfl) ho I.free
 ·obtain⟨v,o,ho,hd⟩:=I.cell x c e
  exact free c o (λz=>(hch c z).2.2.1 x c e rfl) ho (I.freeC x c e)
 ·obtain⟨e,n,ne,nf,d⟩:=I.pin p hp
  have nch:p.1∉ch:=λz=>(hch p.1 z).2.2.2 p hp rfl
  exact⟨keep p.1 p.2 ne nf nch e n,free p.1 p.2 nch e n,ne,nf,d⟩
theorem Inv.un{t':Nat}(I:Inv X pins σ H s)(u:Un X.fs [] H H' s.heap h')(hok:HOk X.prog X.w H' h'):Inv X pins σ H' {s with heap:=h',toks:=t'}:=by
 obtain⟨m,⟨o,es,ep,ho,r⟩,_⟩:=id I.loc
 obtain⟨sl,hL⟩:=u.any ho I.free (by simp)
 exact I.step (g':=s.gens) (d':=s.drawn) (ch:=[]) (λ_ z=>nomatch z) (λb o _ hb _ e n=>u.keep b o e n hb (by simp)) (λb o _ hb _ e n=>u.slot b o e n hb (by simp)) (λb o _ e n=>u.free b o e n (by simp)) (λb o _ e=>u.there b o e (by simp)) u.tups u.frzs u.tbls (λm' hm=>by
  obtain⟨o',es',ep',ho',r'⟩:=hm
  rw[ho]at ho';cases ho'
  exact⟨_,es',ep',hL,r'⟩) hok I.bare
theorem Inv.call{g':Array GenState}{t':Nat}{d':Drawn}{ch:List Addr}(I:Inv X pins σ H s)(u:Un (frs X.stack) ch H H' s.heap h')(hok:HOk X.prog X.w H' h')(hg:AllBare g')(hch:∀b∈ch,(b∈X.ex\/X.s₀.heap.objs.size<=b)/\b≠X.env.locals/\(∀x c,X.env.cells.lookup x=some c->c≠b)/\∀p∈X.pn++pins,p.1≠b):
  Inv X pins σ H' {s with heap:=h',gens:=g',drawn:=d',toks:=t'}:=by
 obtain⟨m,⟨o,es,ep,ho,r⟩,_⟩:=id I.loc
 obtain⟨sl,hL⟩:=u.any ho I.free λz=>(hch _ z).2.1 rfl
 exact I.step (ch:=ch) hch (λb o hL hb hc e n=>u.keep b o e n (λz=>(UG.mp (I.stkSub b z)).elim hL hb) hc) (λb o _ _ hc e n=>u.any e n hc) (λb o hc e n=>u.free b o e n hc) (λb o hc e=>u.there b o e hc) u.tups u.frzs u.tbls (λm' hm=>by
  obtain⟨o',es',ep',ho',r'⟩:=hm
  rw[ho]at ho';cases ho'
  exact⟨_,es',ep',hL,r'⟩) hok hg
theorem Inv.turned{t':Nat}{it:Addr}(I:Inv X pins σ H s)(k:∀b o,b≠it->s.heap.get? b=some o->h'.get? b=some o)(hn:H it=none)(hL:it≠X.env.locals)(h1:it∈X.ex\/X.s₀.heap.objs.size<=it)(h2:∀x c,X.env.cells.lookup x=some c->c≠it)(h3:∀p∈X.pn++pins,p.1≠it):Inv X pins σ H {s with heap:=h',toks:=t'}:=by
 have nit:∀b u,H b=some u->b≠it:=λb u e z=>by rw[z,hn]at e;cases e
 refine I.step (g':=s.gens) (d':=s.drawn) (ch:=[it]) (λb hb=>?_) (λb o _ _ hc e _=>k b o (λz=>hc (by simp[z])) e) (λb o _ _ hc e _=>⟨o.slots,k b o (λz=>hc (by simp[z])) e⟩) (λ_ _ _ _ n=>n)
  (λb o hc e=>⟨o,k b o (λz=>hc (by simp[z])) e⟩) (λ_ _ e=>e) (λ_ _ _ e=>e) (λb ps e=>⟨#[],by rw[e];simp⟩) (λm hm=>?_) (λb u e=>?_) I.bare
 ·have e:b=it:=by simpa using hb
  subst e
  exact⟨h1,hL,h2,h3⟩
 ·obtain⟨o,es,ep,ho,r⟩:=hm
  exact⟨o,es,ep,k _ o (Ne.symm hL) ho,r⟩
 ·refine(I.hok b u e).stay (λc v hc q=>k c v ?_ q) (λ_ q=>q) λ_ _ q=>q
  rcases hc with z|z
  ·rw[z];exact nit b u e
  ·exact nit c _ z
theorem Inv.tok(I:Inv X pins σ H s)(t:Nat):Inv X pins σ H {s with toks:=t}:=I.un (h':=s.heap) (t':=t) Un.refl I.hok
theorem Inv.kept{t':Nat}(I:Inv X pins σ H s)(k:∀b u,s.heap.get? b=some u->h'.get? b=some u):Inv X pins σ H {s with heap:=h',toks:=t'}:=I.un (Un.kept k) (I.hok.kept k)
theorem Inv.laid{a:Addr}{o:HO}{t':Nat}(I:Inv X pins σ H s)(k:∀b u,s.heap.get? b=some u->h'.get? b=some u)(hp:s.heap.objs.size<=a)(new:ObjOk X.prog X.w (upd H a o) h' a o):
  Inv X pins σ (upd H a o) {s with heap:=h',toks:=t'}:=I.un (Un.laid k hp (I.hok.fresh hp)) (I.hok.laid k hp new)
theorem Inv.write{x e:Addr}{o:HO}{t':Nat}(I:Inv X pins σ H s)(mu:Mut (H x))(he:e=x\/H e=some (.own x))(k:∀b u,b≠e->s.heap.get? b=some u->h'.get? b=some u)(heo:∃u,h'.get? e=some u)(new:ObjOk X.prog X.w (upd H x o) h' x o):Inv X pins σ (upd H x o) {s with heap:=h',toks:=t'}:=I.un (Un.write mu he k heo) (I.hok.write mu he k heo new)
theorem Inv.pins_of{pins':List (Addr×Obj)}(I:Inv X pins σ H s)(h:∀p∈pins',s.heap.get? p.1=some p.2/\H p.1=none/\p.1≠X.env.locals/\p.1∉X.fs/\∀v,p.2.data≠.cell v):Inv X pins' σ H s :=
 ⟨I.ok,I.os,I.bare,I.base,I.loc,I.cell,I.free,I.freeC,λp hp=>(UB.mp hp).elim (λz=>I.pin p (UY _ z)) (h p),I.hok,I.len⟩
theorem Qaz{N:List Str}(hN:N.Nodup){i j:Nat}{x:Str}(a:N[i]?=some x)(b:N[j]?=some x):i=j:=by
 obtain⟨h1,e1⟩:=Ui.mp a
 obtain⟨h2,e2⟩:=Ui.mp b
 exact(Wq hN).mp (e1.trans e2.symm)
theorem QdK{M:Model}{A:Around}{E:Value->Shared->Prop}{i:Nat}{x:Str}{v:V}{u:Value}{Q:Unit->Shared->Prop}(I:Inv X pins σ H s)(hN:X.N.Nodup)(hi:X.N[i]?=some x)(hx:Loc X.env.scope x)(r:RelV v u)(h:∀s',Inv X pins (σ.set i (some v)) H s'->(∃a,Heap.SameBut a s.heap s'.heap/\(a=X.env.locals\/X.env.cells.lookup x=some a))->Q () s')(hf:X.fn x=true\/X.env.scope.names.lookup x=some .local:=by first|exact .inl rfl|exact .inr rfl|assumption):wpAny M A (storeName X.env x u) Q E s:=by
 obtain⟨m,hn,hl⟩:=id I.loc
 have hcls:(X.env.scope.kind == .class || (X.env.scope.kind == .module && X.env.locals != X.env.globals))=false:=by rw[I.ok.kind];rfl
 have hiσ:i<σ.length:=by rw[I.len];exact(Ui.mp hi).1
 have cne:=I.cne
 have tracked:∀{a:Addr}{h':Heap},(∃o,s.heap.get? a=some o/\H a=none)->Heap.SameBut a s.heap h'->HOk X.prog X.w H h':=λ{a h'} ha hs b ob e=>by
  obtain⟨_,_,hfree⟩:=ha
  refine(I.hok b ob e).stay (λc w' hc q=>(hs.2 c ?_).trans q) (λ_ q=>q) λ_ _ q=>q
  rintro rfl
  rcases hc with rfl|hc
  ·rw[hfree]at e;cases e
  ·rw[hfree]at hc;cases hc
 rcases hx with hk|hk
 ·refine wpAny_storeName_local hk hn (λh' hn' hs=>?_) hcls
  obtain⟨oL,_,_,hoL,_⟩:=id hn
  refine h _ ⟨I.ok,I.os,I.bare,⟨λb o e n hb hx=>?_,λb o e n hb hx=>?_,I.base.free,λb o e hx=>?_,I.base.tups,I.base.frzs,I.base.tbls⟩,⟨_,hn',λj y v' e1 e2 e3=>?_⟩,λy c e=>?_,I.free,I.freeC,λp hp=>?_,tracked ⟨oL,hoL,I.free⟩ hs,by simpa using I.len⟩ ⟨_,hs,.inl rfl⟩
  ·exact(hs.2 b (UK (Uv (Um e) I.ok.above))).trans (I.base.keep b o e n hb hx)
  ·obtain⟨sl,e1⟩:=I.base.slot b o e n hb hx
   exact⟨sl,(hs.2 b (UK (Uv (Um e) I.ok.above))).trans e1⟩
  ·obtain⟨o',e1⟩:=I.base.there b o e hx
   exact⟨o',(hs.2 b (UK (Uv (Um e) I.ok.above))).trans e1⟩
  ·by_cases hj:j=i
   ·subst hj
    rw[hi]at e1;cases e1
    rw[U0 hiσ]at e2
    cases e2
    exact⟨u,r,.inl ⟨hk,by simp⟩⟩
   ·rw[Uy (Ne.symm hj)]at e2
    obtain⟨u',r',q⟩:=hl j y v' e1 e2 e3
    refine⟨u',r',?_⟩
    rcases q with⟨k,e⟩|⟨k,c,e,z⟩
    ·refine .inl ⟨k,?_⟩
     have:y≠x:=λe=>hj (Qaz hN e1 (e ▸ hi))
     simp[this,e]
    ·exact .inr ⟨k,c,e,z.sameBut hs (cne y c e)⟩
  ·obtain⟨w',z⟩:=I.cell y c e
   exact⟨w',z.sameBut hs (cne y c e)⟩
  ·obtain⟨e,n,ne,nf,d⟩:=I.pin p hp
   exact⟨(hs.2 p.1 ne).trans e,n,ne,nf,d⟩
 ·have hfn:X.fn x=true:=by
   rcases hf with z|z
   ·exact z
   ·rw[z]at hk;cases hk
  obtain⟨c,hc⟩:=I.ok.has x (.inl hk)
  obtain⟨w',z⟩:=I.cell x c hc
  refine wpAny_storeName_cell I.ok.kind hk hc z (λh' hc' hs=>?_)
  obtain⟨oc,hoc,hocd⟩:=id z
  refine h {s with heap:=h'} ⟨I.ok,I.os,I.bare,⟨λb o e n hb hx=>?_,λb o e n hb hx=>?_,I.base.free,λb o e hx=>?_,I.base.tups,I.base.frzs,I.base.tbls⟩,⟨m,hn.sameBut hs (Ne.symm (cne x c hc)),λj y v' e1 e2 e3=>?_⟩,λy c' e=>?_,I.free,I.freeC,λp hp=>?_,tracked ⟨oc,hoc,I.freeC x c hc⟩ hs,by simpa using I.len⟩ ⟨c,hs,.inr hc⟩
  ·exact(hs.2 b (UK (Uv (Um e) (I.ok.cab x c hfn hc)))).trans (I.base.keep b o e n hb hx)
  ·obtain⟨sl,e1⟩:=I.base.slot b o e n hb hx
   exact⟨sl,(hs.2 b (UK (Uv (Um e) (I.ok.cab x c hfn hc)))).trans e1⟩
  ·obtain⟨o',e1⟩:=I.base.there b o e hx
   exact⟨o',(hs.2 b (UK (Uv (Um e) (I.ok.cab x c hfn hc)))).trans e1⟩
  ·by_cases hj:j=i
   ·subst hj
    rw[hi]at e1;cases e1
    rw[U0 hiσ]at e2
    cases e2
    exact⟨u,r,.inr ⟨.inl hk,c,hc,hc'⟩⟩
   ·rw[Uy (Ne.symm hj)]at e2
    obtain⟨u',r',q⟩:=hl j y v' e1 e2 e3
    refine⟨u',r',?_⟩
    rcases q with q|⟨k,c',e,z'⟩
    ·exact .inl q
    ·refine .inr ⟨k,c',e,z'.sameBut hs ?_⟩
     rintro rfl
     exact hj (Qaz hN e1 (I.ok.inj _ _ _ e hc ▸ hi))
  ·by_cases hcc:c'=c
   ·subst hcc;exact⟨_,hc'⟩
   ·obtain⟨w2,z2⟩:=I.cell y c' e
    exact⟨w2,z2.sameBut hs hcc⟩
  ·obtain⟨e,n,ne,nf,d⟩:=I.pin p hp
   refine⟨(hs.2 p.1 ?_).trans e,n,ne,nf,d⟩
   intro q
   rw[q,hoc]at e
   have q':oc=p.2:=Option.some.inj e
   exact d w' (by rw[<-q'];exact hocd)
theorem Js{M:Model}{A:Around}{E:Value->Shared->Prop}{i:Nat}{x:Str}{v:V}{u:Value}{Q:Unit->Shared->Prop}(I:Inv X pins σ H s)(hN:X.N.Nodup)(hi:X.N[i]?=some x)(hx:Loc X.env.scope x)(r:RelV v u)(h:∀s',Inv X pins (σ.set i (some v)) H s'->Q () s')(hf:X.fn x=true\/X.env.scope.names.lookup x=some .local:=by first|exact .inl rfl|exact .inr rfl|assumption):wpAny M A (storeName X.env x u) Q E s :=
 QdK I hN hi hx r (λs' I' _=>h s' I') hf
theorem Inv.call'{s':Shared}{ch:List Addr}(I:Inv X pins σ H s)(ho:s'.os=s.os)(u:Un (frs X.stack) ch H H' s.heap s'.heap)(hok:HOk X.prog X.w H' s'.heap)(hg:AllBare s'.gens)(hch:∀b∈ch,(b∈X.ex\/X.s₀.heap.objs.size<=b)/\b≠X.env.locals/\(∀x c,X.env.cells.lookup x=some c->c≠b)/\∀p∈X.pn++pins,p.1≠b):Inv X pins σ H' s':=by
 obtain⟨h',g',d',t',o'⟩:=s'
 have e:o'=s.os:=ho
 subst e
 exact I.call (g':=g') (t':=t') (d':=d') u hok hg hch
end
noncomputable abbrev XK:=Value->Option Addr->Hp->Prop
noncomputable abbrev St:=List (Option V)
noncomputable abbrev VK:=V->Hp->Prop
noncomputable abbrev TE:=St->Hp->VK->Prop
noncomputable abbrev TT:=St->Hp->(Bool->Hp->Prop)->Prop
noncomputable abbrev TA:=St->Hp->(List V->Hp->Prop)->Prop
structure Ends where
 nx:St->Hp->Prop
 rt:VK
 bk:St->Hp->Prop:=λ_ _=>False
 ct:St->Hp->Prop:=λ_ _=>False
noncomputable abbrev TS:=Ends->St->Hp->Prop
def EP(X:Cx)(pins:List (Addr×Obj))(σ:St)(Q:VK)(u:Value)(s':Shared):Prop:=∃v H',Inv X pins σ H' s'/\RelV v u/\Q v H'
def TP(X:Cx)(pins:List (Addr×Obj))(σ:St)(Q:Bool->Hp->Prop)(b:Bool)(s':Shared):Prop:=∃H',Inv X pins σ H' s'/\Q b H'
def AP(X:Cx)(pins:List (Addr×Obj))(σ:St)(Q:List V->Hp->Prop)(us:List Value)(s':Shared):Prop:=∃vs H',Inv X pins σ H' s'/\Vals vs us/\Q vs H'
noncomputable def SP(X:Cx)(pins:List (Addr×Obj))(D:Ends)(f:Flow)(s':Shared):Prop :=
 match f with
 |.next=>∃σ' H',Inv X pins σ' H' s'/\D.nx σ' H'
 |.brk=>∃σ' H',Inv X pins σ' H' s'/\D.bk σ' H'
 |.cont=>∃σ' H',Inv X pins σ' H' s'/\D.ct σ' H'
 |.ret u=>∃v σ' H',Inv X pins σ' H' s'/\RelV v u/\D.rt v H'
noncomputable def PE(X:Cx)(e:Expr)(t:TE):Prop :=
 ∀(pins:List (Addr×Obj))(s:Shared)(σ:St)(H:Hp)(Q:VK),Inv X pins σ H s->t σ H Q->wpAny (model X.prog X.w) X.A (eval e X.env) (EP X pins σ Q) X.xe s
noncomputable def PT(X:Cx)(e:Expr)(t:TT):Prop :=
 ∀(pins:List (Addr×Obj))(s:Shared)(σ:St)(H:Hp)(Q:Bool->Hp->Prop),Inv X pins σ H s->t σ H Q->wpAny (model X.prog X.w) X.A (isTrue e X.env (eval e X.env)) (TP X pins σ Q) X.xe s
noncomputable def PW(X:Cx)(e:Expr)(t:TT):Prop :=
 ∀(whole:Sem Value)(pins:List (Addr×Obj))(s:Shared)(σ:St)(H:Hp)(Q:Bool->Hp->Prop),Inv X pins σ H s->t σ H Q->wpAny (model X.prog X.w) X.A (isTrue e X.env whole) (TP X pins σ Q) X.xe s
theorem PW.pt{X:Cx}{e:Expr}{t:TT}(h:PW X e t):PT X e t:=h _
noncomputable def PA(X:Cx)(es:List Expr)(t:TA):Prop :=
 ∀(pos:Pos)(pins:List (Addr×Obj))(s:Shared)(σ:St)(H:Hp)(Q:List V->Hp->Prop),Inv X pins σ H s->t σ H Q->wpAny (model X.prog X.w) X.A (spliced (backTo pos (starEach es X.env))) (AP X pins σ Q) X.xe s
noncomputable def PS(X:Cx)(st:Stmt)(t:TS):Prop :=
 ∀(pins:List (Addr×Obj))(s:Shared)(σ:St)(H:Hp)(D:Ends),Inv X pins σ H s->t D σ H->wpAny (model X.prog X.w) X.A (exec st X.env) (SP X pins D) X.xe s
noncomputable def PSs(X:Cx)(st:List Stmt)(t:TS):Prop :=
 ∀(pins:List (Addr×Obj))(s:Shared)(σ:St)(H:Hp)(D:Ends),Inv X pins σ H s->t D σ H->wpAny (model X.prog X.w) X.A (execs st X.env) (SP X pins D) X.xe s
theorem thn{α:Type}{t:Sem α}{Q Q':α->Shared->Prop}{M:Model}{A:Around}{E:Value->Shared->Prop}{s:Shared}(h:wpAny M A t Q E s)(hQ:∀a s,Q a s->Q' a s):wpAny M A t Q' E s:=UM h hQ λ_ _ x=>x
end
section
section
variable{X:Cx}
noncomputable def tVar(i:Nat):TE:=λσ H Q=>∃v,σ[i]?=some (some v)/\Q v H
noncomputable def tC(v:V):TE:=λ_ H Q=>Q v H
theorem Qct{i:Nat}{x:Str}{pos:Pos}(hN:X.N[i]?=some x)(hv:Vis X.env.scope x)(hd:(x == ("__debug__" : Str))=false:=by decide)(hcd:(x == ("__classdict__" : Str))=false:=by decide):PE X (.Name x pos) (tVar i):=by
 intro pins s σ H Q I h
 obtain⟨v,e,h⟩:=h
 obtain⟨m,hn,hl⟩:=I.loc
 obtain⟨u,r,l⟩:=hl i x v hN e hv
 have fin:EP X pins σ Q u s:=⟨v,H,I,r,h⟩
 rcases l with⟨hk,hm⟩|⟨hk,c,hc,hcell⟩
 ·exact wpAny_Name (wpAny_loadName_local I.ok.kind hk hn hm fin) hd
 ·rcases hk with hk|hk
  ·exact wpAny_Name (wpAny_loadName_cell I.ok.kind hk hc hcell fin) hd
  ·exact wpAny_Name (wpAny_loadName_free I.ok.kind hk hc hcell fin hcd) hd
theorem QhW{i j pos}:PE X (.Constant (.int i) j pos) (tC (.int i)):=λ_ _ _ H _ I h=>wpAny_Constant_int ⟨.int i,H,I.tok _,⟨_,rfl⟩,h⟩
theorem Qjl{b j pos}:PE X (.Constant (.bool b) j pos) (tC (.bl b)):=λ_ _ _ H _ I h=>Constant_bool ⟨.bl b,H,I,rfl,h⟩
theorem QhX{j pos}:PE X (.Constant .none j pos) (tC .non):=λ_ _ _ H _ I h=>Constant_none ⟨.non,H,I,rfl,h⟩
theorem Qgl{x j pos}:PE X (.Constant (.str x) j pos) (tC (.str x)):=λ_ _ _ H _ I h=>Calls.Constant_str ⟨.str x,H,I.tok _,⟨_,rfl⟩,h⟩
def Gl(X:Cx)(x:Str):Prop:=X.env.kindOf x=some .globalImplicit
theorem YC{E:Value->Shared->Prop}{pins:List (Addr×Obj)}{s:Shared}{σ:St}{H:Hp}{x:Str}{u:Value}{pos:Pos}{Q:Value->Shared->Prop}(I:Inv X pins σ H s)(hg:Gl X x)(hm:X.mg x=some u)(h:Q u s)(hd:(x == ("__debug__" : Str))=false:=by decide):wpAny (model X.prog X.w) X.A (eval (.Name x pos) X.env) Q E s :=
 RY I.ok.kind hg (Calls.loadGlobal_global (by rw[I.ok.glob];exact I.mod.glob.keeps I.bk) hm h) hd
theorem Qao{E:Value->Shared->Prop}{pins:List (Addr×Obj)}{s:Shared}{σ:St}{H:Hp}{x:Str}{u:Value}{pos:Pos}{Q:Value->Shared->Prop}(I:Inv X pins σ H s)(hg:Gl X x)(hm:X.mg x=none)(hv:bootBuiltins x=some u)(h:Q u s)(hn:x ≠ "__name__":=by decide)(hd:(x == ("__debug__" : Str))=false:=by decide):wpAny (model X.prog X.w) X.A (eval (.Name x pos) X.env) Q E s:=by
 obtain⟨mb,h1,h2⟩:=I.mod.blt
 exact RY I.ok.kind hg (Calls.loadGlobal_builtin (by rw[I.ok.glob];exact I.mod.glob.keeps I.bk) hm (by rw[I.ok.blt];exact h1.keeps I.bk) ((h2 x hn).trans hv) h) hd
theorem JB{x:Str}{v:V}{u:Value}{pos:Pos}(hg:Gl X x)(hm:X.mg x=some u)(r:RelV v u)(hd:(x == ("__debug__" : Str))=false:=by decide):PE X (.Name x pos) (tC v) :=
 λ_ _ _ H _ I h=>YC I hg hm ⟨v,H,I,r,h⟩ hd
theorem QdL{x:Str}{v:V}{u:Value}{pos:Pos}(hg:Gl X x)(hm:X.mg x=none)(hv:bootBuiltins x=some u)(r:RelV v u)(hn:x ≠ "__name__":=by decide)(hd:(x == ("__debug__" : Str))=false:=by decide):PE X (.Name x pos) (tC v) :=
 λ_ _ _ H _ I h=>Qao I hg hm hv ⟨v,H,I,r,h⟩ hn hd
variable{a b:Expr}{ta tb:TE}{pos:Pos}
noncomputable def tB(t:TE):TT:=λσ H Q=>t σ H λx H1=>∃c,x=.bl c/\Q c H1
theorem QhY{e:Expr}{t:TE}(h:PE X e t)(he:∀whole,isTrue e X.env whole=(do let v <-whole;standAt e.pos;holding [v] (truthy v)):=by intro _;rfl):PT X e (tB t):=by
 intro pins s σ H Q I hw
 refine isTrue_plain (thn (h pins s σ H _ I hw) λv s1 ⟨x,H1,I1,r1,q1⟩=>?_) (he _)
 obtain⟨d,rfl,q⟩:=q1
 cases r1
 exact Ti ⟨H1,I1,q⟩
variable{tA tB':TT}{rest:List Expr}
noncomputable def tAnd(t u:TT):TT:=λσ H Q=>t σ H λc H1=>if c=true then u σ H1 Q else Q false H1
noncomputable def tOr(t u:TT):TT:=λσ H Q=>t σ H λc H1=>if c=true then Q true H1 else u σ H1 Q
noncomputable def tNot(t:TT):TT:=λσ H Q=>t σ H λc H1=>Q (!c) H1
theorem QgM(ha:PT X a tA):PW X (.BoolOp .And [a] pos) tA:=by
 intro wh pins s σ H Q I h
 refine isTrue_and (thn (ha pins s σ H Q I h) λc s1 e=>?_)
 cases c with
 |true=>exact isTrue_and_nil e
 |false=>exact e
theorem QhZ(ha:PT X a tA):PW X (.BoolOp .Or [a] pos) tA:=by
 intro wh pins s σ H Q I h
 refine isTrue_or (thn (ha pins s σ H Q I h) λc s1 e=>?_)
 cases c with
 |false=>exact isTrue_or_nil e
 |true=>exact e
theorem Qh0(ha:PT X a tA)(hb:PW X (.BoolOp .And (b::rest) pos) tB'):PW X (.BoolOp .And (a::b::rest) pos) (tAnd tA tB'):=by
 intro wh pins s σ H Q I h
 refine isTrue_and (thn (ha pins s σ H _ I h) λc s1 ⟨H1,I1,q1⟩=>?_)
 cases c with
 |true=>exact hb wh pins s1 σ H1 Q I1 q1
 |false=>exact⟨H1,I1,q1⟩
theorem Qjm(ha:PT X a tA)(hb:PW X (.BoolOp .Or (b::rest) pos) tB'):PW X (.BoolOp .Or (a::b::rest) pos) (tOr tA tB'):=by
 intro wh pins s σ H Q I h
 refine isTrue_or (thn (ha pins s σ H _ I h) λc s1 ⟨H1,I1,q1⟩=>?_)
 cases c with
 |true=>exact⟨H1,I1,q1⟩
 |false=>exact hb wh pins s1 σ H1 Q I1 q1
theorem Qh1(ha:PT X a tA):PT X (.UnaryOp .Not a pos) (tNot tA):=by
 intro pins s σ H Q I h
 exact isTrue_not (ha pins s σ H (λc H1=>Q (!c) H1) I h)
noncomputable def Qjn(ta tb:TE):TE:=λσ H Q=>ta σ H λx H1=>∃c,x=.bl c/\if c=true then tb σ H1 Q else Q (.bl false) H1
noncomputable def tOrV(ta tb:TE):TE:=λσ H Q=>ta σ H λx H1=>∃c,x=.bl c/\if c=true then Q (.bl true) H1 else tb σ H1 Q
noncomputable def Qjo(ta:TE):TE:=λσ H Q=>ta σ H λx H1=>∃c,x=.bl c/\Q (.bl (!c)) H1
theorem Qh2{op}{t:TE}(h:PE X a t):PE X (.BoolOp op [a] pos) t:=λpins s σ H Q I hw=>BoolOp_one (h pins s σ H Q I hw)
theorem Qh3(ha:PE X a ta)(hb:PE X (.BoolOp .And (b::rest) pos) tb):PE X (.BoolOp .And (a::b::rest) pos) (Qjn ta tb):=by
 intro pins s σ H Q I h
 refine BoolOp_and (thn (ha pins s σ H _ I h) λv s1 ⟨x,H1,I1,r1,q1⟩=>?_)
 obtain⟨c,rfl,q1⟩:=q1
 cases r1
 refine Ti ?_
 cases c with
 |true=>exact hb pins s1 σ H1 Q I1 q1
 |false=>exact⟨.bl false,H1,I1,rfl,q1⟩
theorem Qjp(ha:PE X a ta)(hb:PE X (.BoolOp .Or (b::rest) pos) tb):PE X (.BoolOp .Or (a::b::rest) pos) (tOrV ta tb):=by
 intro pins s σ H Q I h
 refine BoolOp_or (thn (ha pins s σ H _ I h) λv s1 ⟨x,H1,I1,r1,q1⟩=>?_)
 obtain⟨c,rfl,q1⟩:=q1
 cases r1
 refine Ti ?_
 cases c with
 |false=>exact hb pins s1 σ H1 Q I1 q1
 |true=>exact⟨.bl true,H1,I1,rfl,q1⟩
theorem Qh4(ha:PE X a ta):PE X (.UnaryOp .Not a pos) (Qjo ta):=by
 intro pins s σ H Q I h
 refine UnaryOp_ (thn (ha pins s σ H _ I h) λv s1 ⟨x,H1,I1,r1,q1⟩=>?_)
 obtain⟨c,rfl,q1⟩:=q1
 cases r1
 exact not_of (Ti ⟨.bl (!c),H1,I1,rfl,q1⟩)
noncomputable def tIf(t:TT)(ta tb:TE):TE:=λσ H Q=>t σ H λc H1=>if c=true then ta σ H1 Q else tb σ H1 Q
theorem Qfr{c:Expr}(hc:PT X c tA)(ha:PE X a ta)(hb:PE X b tb):PE X (.IfExp c a b pos) (tIf tA ta tb):=by
 intro pins s σ H Q I h
 refine wpAny_IfExp (thn (hc pins s σ H _ I h) λd s1 ⟨H1,I1,q1⟩=>?_)
 cases d with
 |true=>exact ha pins s1 σ H1 Q I1 q1
 |false=>exact hb pins s1 σ H1 Q I1 q1
end
end
section
noncomputable def SqL(K:Frag)(H:Hp)(a:Addr)(xs:List V):Prop :=
 Rd H a (.lst xs) \/
  ∃(o:Obj)(its:Array Value)(n:Nat),K.lookup a=some o/\o.cls=.type "list" /\ o.dict=none/\o.data=.seq its n/\its.size<=sizeLine/\Vals xs its.toList
noncomputable def SqT(K:Frag)(H:Hp)(a:Addr)(xs:List V):Prop :=
 Rd H a (.tup xs) \/
  ∃(o:Obj)(its:Array Value)(n:Nat),K.lookup a=some o/\o.cls=.type "tuple" /\ o.dict=none/\o.data=.seq its n/\its.size<=sizeLine/\Vals xs its.toList
noncomputable def absV:Value->Option V
 |.none=>some .non
 |.bool b=>some (.bl b)
 |.int i _=>some (.int i)
 |.str x _=>some (.str x)
 |.bytes b _=>some (.byt b)
 |.float b _=>some (.flt b)
 |.ref a=>some (.ref a)
 |.type n=>some (.ty n)
 |_=>none
theorem RelV.abs{x:V}{u:Value}(r:RelV x u):absV u=some x:=by
 cases x with
 |non=>cases r;rfl
 |bl _=>cases r;rfl
 |int _=>obtain⟨t,rfl⟩:=r;rfl
 |str _=>obtain⟨t,rfl⟩:=r;rfl
 |byt _=>obtain⟨t,rfl⟩:=r;rfl
 |flt _=>obtain⟨t,rfl⟩:=r;rfl
 |ref _=>cases r;rfl
 |ty _=>cases r;rfl
theorem RelV.inj{x y:V}{u:Value}(r:RelV x u)(q:RelV y u):x=y:=Option.some.inj (r.abs.symm.trans q.abs)
theorem Vals.inj:∀{xs ys:List V}{us:List Value},Vals xs us->Vals ys us->xs=ys
 |_,_,_,.nil,.nil=>rfl
 |_,_,_,.cons r t,.cons r' t'=>by rw[r.inj r',Vals.inj t t']
section
variable{X:Cx}{pins:List (Addr×Obj)}{σ:St}{H:Hp}{s:Shared}{a:Addr}{xs ys:List V}
theorem SqL.of{K:Frag}(h:H a=some (.lst xs)):SqL K H a xs:=.inl (.inl h)
theorem SqT.of{K:Frag}(h:H a=some (.tup xs)):SqT K H a xs:=.inl (.inl h)
theorem Inv.list(I:Inv X pins σ H s)(h:SqL X.K H a xs):∃its:List Value,Vals xs its/\PlainL s.heap a its.toArray/\xs.length<=sizeLine:=by
 rcases h with h|⟨o,its,n,hk,hc,hd,hs,hz,r⟩
 ·obtain⟨z,its,n,r,e⟩:=h.ok I.hok
  exact⟨its,r,⟨_,n,e,rfl,rfl,rfl⟩,z⟩
 ·refine⟨its.toList,r,⟨o,n,I.kIn a o hk,hc,hd,by simpa using hs⟩,?_⟩
  have e:=r.length
  simp only[Tk]at e
  omega
theorem Inv.tupleD(I:Inv X pins σ H s)(h:SqT X.K H a xs):∃its:List Value,Vals xs its/\IsTupD s.heap a its.toArray/\xs.length<=sizeLine:=by
 rcases h with h|⟨o,its,n,hk,hc,hd,hs,hz,r⟩
 ·obtain⟨z,its,r,p⟩:=h.ok I.hok
  exact⟨its,r,p,z⟩
 ·refine⟨its.toList,r,⟨o,I.kIn a o hk,hc,hd,n,by simpa using hs⟩,?_⟩
  have e:=r.length
  simp only[Tk]at e
  omega
theorem Inv.tuple(I:Inv X pins σ H s)(h:SqT X.K H a xs):∃its:List Value,Vals xs its/\IsTup s.heap a its.toArray/\xs.length<=sizeLine :=
 let ⟨its,r,p,z⟩:=I.tupleD h;⟨its,r,p.tup,z⟩
theorem Inv.list_inj(I:Inv X pins σ H s)(h:SqL X.K H a xs)(h':SqL X.K H a ys):xs=ys:=by
 obtain⟨its,r,⟨o,n,e,_,_,d⟩,_⟩:=I.list h
 obtain⟨its',r',⟨o',n',e',_,_,d'⟩,_⟩:=I.list h'
 rw[e]at e';cases e'
 rw[d]at d'
 injection d' with d1 _
 have:its=its':=by simpa using TU Array.toList d1
 subst this
 exact r.inj r'
theorem Inv.tuple_inj(I:Inv X pins σ H s)(h:SqT X.K H a xs)(h':SqT X.K H a ys):xs=ys:=by
 obtain⟨its,r,⟨o,e,_,n,d⟩,_⟩:=I.tuple h
 obtain⟨its',r',⟨o',e',_,n',d'⟩,_⟩:=I.tuple h'
 rw[e]at e';cases e'
 rw[d]at d'
 injection d' with d1 _
 have:its=its':=by simpa using TU Array.toList d1
 subst this
 exact r.inj r'
end
noncomputable abbrev Cx.wish(X:Cx)(E:Value->Shared->Prop):Cx:={X with xe:=E}
noncomputable abbrev Cx.nox(X:Cx):Cx:=X.wish λ_ _=>False
theorem Cx.Ok.wish{X:Cx}(ok:X.Ok)(E:Value->Shared->Prop):(X.wish E).Ok :=
 ⟨ok.mod,ok.kind,ok.glob,ok.blt,ok.above,ok.inj,ok.has,ok.cab,ok.hd,ok.frames,ok.stk,ok.exf,ok.bs,ok.bsz,ok.noex,ok.exfs,ok.funs,ok.frf⟩
theorem Cx.Ok.unwish{X:Cx}{E:Value->Shared->Prop}(ok:(X.wish E).Ok):X.Ok :=
 ⟨ok.mod,ok.kind,ok.glob,ok.blt,ok.above,ok.inj,ok.has,ok.cab,ok.hd,ok.frames,ok.stk,ok.exf,ok.bs,ok.bsz,ok.noex,ok.exfs,ok.funs,ok.frf⟩
section
variable{X:Cx}{pins:List (Addr×Obj)}{σ:St}{H:Hp}{s:Shared}{E:Value->Shared->Prop}
theorem Inv.wish(I:Inv X pins σ H s)(E:Value->Shared->Prop):Inv (X.wish E) pins σ H s:=⟨I.ok.wish E,I.os,I.bare,I.base,I.loc,I.cell,I.free,I.freeC,I.pin,I.hok,I.len⟩
theorem Inv.unwish(I:Inv (X.wish E) pins σ H s):Inv X pins σ H s:=⟨I.ok.unwish,I.os,I.bare,I.base,I.loc,I.cell,I.free,I.freeC,I.pin,I.hok,I.len⟩
theorem SP.unwish{D:Ends}{f:Flow}{s':Shared}(h:SP (X.wish E) pins D f s'):SP X pins D f s':=by
 cases f with
 |next=>obtain⟨σ',H',I,q⟩:=h;exact⟨σ',H',I.unwish,q⟩
 |brk=>obtain⟨σ',H',I,q⟩:=h;exact⟨σ',H',I.unwish,q⟩
 |cont=>obtain⟨σ',H',I,q⟩:=h;exact⟨σ',H',I.unwish,q⟩
 |ret u=>obtain⟨v,σ',H',I,r,q⟩:=h;exact⟨v,σ',H',I.unwish,r,q⟩
theorem PE.nox{e:Expr}{t:TE}(h:PE X.nox e t):PE X e t:=λpins s σ H Q I hw =>
 UM (h pins s σ H Q (I.wish _) hw) (λ_ _ ⟨v,H',I',r,q⟩=>⟨v,H',I'.unwish,r,q⟩) λ_ _ z=>False.elim z
theorem PT.nox{e:Expr}{t:TT}(h:PT X.nox e t):PT X e t:=λpins s σ H Q I hw =>
 UM (h pins s σ H Q (I.wish _) hw) (λ_ _ ⟨H',I',q⟩=>⟨H',I'.unwish,q⟩) λ_ _ z=>False.elim z
theorem PSs.nox{st:List Stmt}{t:TS}(h:PSs X.nox st t):PSs X st t:=λpins s σ H D I hw =>
 UM (h pins s σ H D (I.wish _) hw) (λ_ _ q=>q.unwish) λ_ _ z=>False.elim z
end
section
variable{X:Cx}{st:Stmt}{rest:List Stmt}{t u:TS}{e:Expr}{te:TE}{pos:Pos}
noncomputable def Qjq:TS:=λD σ H=>D.nx σ H
noncomputable def tSeq(t u:TS):TS:=λD σ H=>t {D with nx:=u D} σ H
theorem QdM:PSs X [] Qjq:=λ_ _ σ H _ I h=>Wx ⟨σ,H,I,h⟩
theorem Qcu(h1:PS X st t)(h2:PSs X rest u):PSs X (st::rest) (tSeq t u):=by
 intro pins s σ H D I h
 refine wpAny_execs_cons (thn (h1 pins s σ H {D with nx:=u D} I h) λf s1 q=>?_)
 cases f with
 |next =>
  obtain⟨σ',H',I',q⟩:=q
  exact h2 pins s1 σ' H' D I' q
 |ret v=>exact q
 |brk=>exact q
 |cont=>exact q
theorem QdN(h1:PS X st t):PSs X [st] t:=by
 intro pins s σ H D I h
 refine wpAny_execs_cons (thn (h1 pins s σ H D I h) λf s1 q=>?_)
 cases f with
 |next=>exact Wx q
 |ret v=>exact q
 |brk=>exact q
 |cont=>exact q
theorem Inv.quiet{pins:List (Addr×Obj)}{σ:St}{H:Hp}{s:Shared}(I:Inv X pins σ H s):interactive X.env=false:=by simp[interactive,I.ok.kind]
noncomputable def Qh5(te:TE):TS:=λD σ H=>te σ H λ_ H1=>D.nx σ H1
theorem QdO(he:PE X e te)(hs:swapsWith e none pos.line X.env=pure false:=by rfl):PS X (.Expr e pos) (Qh5 te):=by
 intro pins s σ H D I h
 exact wpAny_Expr_any (thn (he pins s σ H _ I h) λv s1 ⟨x,H1,I1,r1,q1⟩=>⟨σ,H1,I1,q1⟩) I.quiet hs
noncomputable def tRet(te:TE):TS:=λD σ H=>te σ H D.rt
theorem Qh6(he:PE X e te):PS X (.Return (some e) pos) (tRet te):=by
 intro pins s σ H D I h
 exact wpAny_Return_some (thn (he pins s σ H _ I h) λv s1 ⟨x,H1,I1,r1,q1⟩=>⟨x,σ,H1,I1,r1,q1⟩)
noncomputable def tIfS(c:TT)(t u:TS):TS:=λD σ H=>c σ H λb H1=>if b=true then t D σ H1 else u D σ H1
theorem Qjr{c:Expr}{a b:List Stmt}{tc:TT}(hc:PT X c tc)(ha:PSs X a t)(hb:PSs X b u):PS X (.If c a b pos) (tIfS tc t u):=by
 intro pins s σ H D I h
 refine wpAny_If (thn (hc pins s σ H _ I h) λd s1 ⟨H1,I1,q1⟩=>?_)
 cases d with
 |true=>exact ha pins s1 σ H1 D I1 q1
 |false=>exact hb pins s1 σ H1 D I1 q1
end
noncomputable abbrev TG:=V->St->Hp->(St->Hp->Prop)->Prop
noncomputable abbrev TGs:=List V->St->Hp->(St->Hp->Prop)->Prop
noncomputable def PG(X:Cx)(target:Expr)(t:TG):Prop :=
 ∀(pins:List (Addr×Obj))(s:Shared)(σ:St)(H:Hp)(v:V)(u:Value)(Q:St->Hp->Prop),Inv X pins σ H s->RelV v u->t v σ H Q ->
  wpAny (model X.prog X.w) X.A (assign target X.env u) (λ_ s'=>∃σ' H',Inv X pins σ' H' s'/\Q σ' H') X.xe s
noncomputable def PGs(X:Cx)(ts:List Expr)(t:TGs):Prop :=
 ∀(pins:List (Addr×Obj))(s:Shared)(σ:St)(H:Hp)(vs:List V)(us:List Value)(Q:St->Hp->Prop),Inv X pins σ H s->Vals vs us->t vs σ H Q ->
  wpAny (model X.prog X.w) X.A (assignInOrder ((assignEach ts X.env).map (·.2)) us) (λ_ s'=>∃σ' H',Inv X pins σ' H' s'/\Q σ' H') X.xe s
noncomputable abbrev TSet:=V->V->V->Hp->(Hp->Prop)->Prop
noncomputable def PSet(X:Cx)(t:TSet):Prop :=
 ∀(pins:List (Addr×Obj))(s:Shared)(σ:St)(H:Hp)(o i v:V)(ov iv u:Value)(Q:Hp->Prop),Inv X pins σ H s->RelV o ov->RelV i iv->RelV v u->t o i v H Q ->
  wpAny (model X.prog X.w) X.A (setItem ov iv u) (λ_ s'=>∃H',Inv X pins σ H' s'/\Q H') X.xe s
section
variable{X:Cx}{pos:Pos}
noncomputable def Qh7(i:Nat):TG:=λv σ H Q=>Q (σ.set i (some v)) H
theorem QgN{i:Nat}{x:Str}(hN:X.N.Nodup)(hi:X.N[i]?=some x)(hx:Loc X.env.scope x)(hf:X.fn x=true\/X.env.scope.names.lookup x=some .local:=by first|exact .inl rfl|exact .inr rfl|assumption):PG X (.Name x pos) (Qh7 i):=by
 intro pins s σ H v u Q I r h
 exact wpAny_assign_Name (Js I hN hi hx r (λs' I'=>⟨_,H,I',h⟩) hf)
noncomputable def gNil:TGs:=λvs σ H Q=>vs=[]/\Q σ H
noncomputable def Qjs(t:TG)(u:TGs):TGs:=λvs σ H Q=>∃v r,vs=v::r/\t v σ H λσ' H'=>u r σ' H' Q
theorem QgO:PGs X [] gNil:=by
 intro pins s σ H vs us Q I r h
 obtain⟨e,h⟩:=h
 subst e
 cases r
 exact assignInOrder_nil ⟨σ,H,I,h⟩
theorem Qfs{e:Expr}{es:List Expr}{t:TG}{u:TGs}(h1:PG X e t)(h2:PGs X es u)(hs:(assignEach (e::es) X.env).map (·.2)=assign e X.env::(assignEach es X.env).map (·.2):=by rfl):PGs X (e::es) (Qjs t u):=by
 intro pins s σ H vs us Q I r h
 obtain⟨v,vr,e1,h⟩:=h
 subst e1
 cases r with
 |cons r rr =>
  rw[hs]
  refine assignInOrder_cons (thn (h1 pins s σ H _ _ _ I r h) λ_ s1 ⟨σ1,H1,I1,q1⟩=>?_)
  exact h2 pins s1 σ1 H1 _ _ Q I1 rr q1
noncomputable def gTup(K:Frag)(n:Nat)(t:TGs):TG:=λv σ H Q=>∃a xs,v=.ref a/\SqT K H a xs/\xs.length=n/\t xs σ H Q
theorem Qh8{es:List Expr}{k:Nat}{t:TGs}{n:Nat}(hc:X.calm=true)(h:PGs X es t)(hn:(assignEach es X.env).length=n:=by rfl)(hst:(assignEach es X.env).findIdx? (·.1)=none:=by rfl):PG X (.Tuple es k pos) (gTup X.K n t):=by
 intro pins s σ H v u Q I r hw
 obtain⟨a,xs,e1,hq,hl,hw⟩:=hw
 subst e1
 cases r
 obtain⟨its,rv,ht,hz⟩:=I.tuple hq
 refine assign_Tuple_tuple (I.ok.hd hc) ht (by simp[hn,<-hl,rv.length]) hst λh' hx=>?_
 have I1:Inv X pins σ H {s with heap:=h'}:=I.kept (t':=s.toks) λb o e=>hx b o (UK (Um e)) e
 exact h pins _ σ H xs _ Q I1 (by simpa using rv) hw
noncomputable def gSub(to ti:TE)(t:TSet):TG:=λv σ H Q=>to σ H λo H1=>ti σ H1 λi H2=>t o i v H2 λH3=>Q σ H3
theorem Qh9{o i:Expr}{to ti:TE}{t:TSet}(ho:PE X o to)(hi:PE X i ti)(hs:PSet X t)(ha:∀v,assign (.Subscript o i pos) X.env v=(do
   let ov <-holding [v] (eval o X.env)
   let iv <-holding [v,ov] (eval i X.env)
   standAt pos
   holding [v,ov,iv] (setItem ov iv v)
   release [v,ov,iv] []):=by intro _;rfl):PG X (.Subscript o i pos) (gSub to ti t):=by
 intro pins s σ H v u Q I r h
 rw[ha]
 refine Ua (U9 (thn (ho pins s σ H _ I h) λov s1 ⟨x,H1,I1,r1,q1⟩=>?_))
 refine Ua (U9 (thn (hi pins s1 σ H1 _ I1 q1) λiv s2 ⟨y,H2,I2,r2,q2⟩=>?_))
 refine Ua (TF (Ua (U9 (thn (hs pins s2 σ H2 x y v ov iv u _ I2 r1 r2 r q2) λ_ s3 ⟨H3,I3,q3⟩=>?_))))
 exact wpAny_release ⟨σ,H3,I3,q3⟩
noncomputable def tAsg(te:TE)(g:TG):TS:=λD σ H=>te σ H λx H1=>g x σ H1 D.nx
theorem Qgm{tg e:Expr}{te:TE}{g:TG}(he:PE X e te)(hg:PG X tg g)(hs:swapsWithSole [tg] e pos.line X.env=pure false:=by rfl)(hw:swappedStores [tg] e X.env=pure none:=by rfl)(h1:(assignEach [tg] X.env).map (·.2)=[assign tg X.env]:=by rfl):PS X (.Assign [tg] e pos) (tAsg te g):=by
 intro pins s σ H D I h
 refine wpAny_Assign_stores (thn (he pins s σ H _ I h) λv s1 ⟨x,H1,I1,r1,q1⟩=>?_) hs hw
 rw[h1]
 exact thn (hg pins s1 σ H1 x v _ I1 r1 q1) λ_ s2 q=>q
theorem Qia{i:Nat}{x:Str}{e:Expr}{te:TE}{pos':Pos}(hN:X.N.Nodup)(hi:X.N[i]?=some x)(hx:Loc X.env.scope x)(he:PE X e te)(hs:swapsWith e (some (.Name x pos')) pos.line X.env=pure false:=by rfl)(hf:X.fn x=true\/X.env.scope.names.lookup x=some .local:=by first|exact .inl rfl|exact .inr rfl|assumption):
  PS X (.Assign [.Name x pos'] e pos) (tAsg te (Qh7 i)):=by
 intro pins s σ H D I h
 refine wpAny_Assign_Name (thn (he pins s σ H _ I h) λv s1 ⟨y,H1,I1,r1,q1⟩=>?_) hs
 exact Js I1 hN hi hx r1 (λs2 I2=>⟨_,H1,I2,q1⟩) hf
end
section
variable{X:Cx}{pos:Pos}
end
structure It where
 go:Nat->Hp->Prop
 yld:Nat->Hp->V->Hp->Prop
 stop:Nat->Hp->Prop
noncomputable def FpOk(X:Cx)(pins:List (Addr×Obj))(H:Hp)(b:Addr):Prop :=
 H b=none/\b≠X.env.locals/\b∉X.fs/\(b∈X.ex\/X.s₀.heap.objs.size<=b)/\(∀x c,X.env.cells.lookup x=some c->c≠b)/\∀p∈X.pn++pins,p.1≠b
theorem Inv.fpOk{X:Cx}{pins:List (Addr×Obj)}{σ:St}{H H':Hp}{s:Shared}{b:Addr}(I:Inv X pins σ H s)(hb:s.heap.objs.size<=b)(hn:H' b=none):FpOk X pins H' b:=by
 refine⟨hn,Ra (Uv I.lt hb),I.nofs hb,.inr (Uo I.sz hb),λx c e z=>?_,λp hp z=>?_⟩
 ·obtain⟨v,q⟩:=I.cell x c e
  exact absurd (Uv q.lt (by rw[z];exact hb)) (TD _)
 ·exact absurd (Uv (Um (I.pin p hp).1) (by rw[z];exact hb)) (TD _)
structure Turn(P:Program)(w:World)(K:Frag)(tg:Expr)(J:It)(fp:List Addr)(it:Addr)(tn:Nat->Heap->Prop):Prop where
 mem:it∈fp
 obj:∀i h,tn i h->∀b∈fp,∃o,h.get? b=some o/\∀v,o.data≠.cell v
 keep:∀i h h',tn i h->(∀b∈fp,∀o,h.get? b=some o->h'.get? b=some o)->tn i h'
 item:∀(X:Cx),X.prog=P->X.w=w->X.K=K->X.calm=true->∀(i:Nat)(pins:List (Addr×Obj))(s:Shared)(σ:St)(H:Hp)(E:Value->Shared->Prop),Inv X pins σ H s->(∀b∈fp,FpOk X pins H b)->tn i s.heap->J.go i H ->
  wpAny (model P w) X.A (pyNext (.ref it)) (λr s1=>∃u,r=some u /\
   wpAny (model P w) X.A (letOwnedTupleGo tg (.ref it) u) (λ_ s2=>∃x H',Inv X pins σ H' s2/\RelV x u/\J.yld i H x H'/\tn (i+1) s2.heap/\∀b∈fp,H' b=none) E s1) E s
 done:∀(X:Cx),X.prog=P->X.w=w->X.K=K->X.calm=true->∀(i:Nat)(pins:List (Addr×Obj))(s:Shared)(σ:St)(H:Hp)(E:Value->Shared->Prop),Inv X pins σ H s->(∀b∈fp,FpOk X pins H b)->tn i s.heap->J.stop i H ->
  wpAny (model P w) X.A (pyNext (.ref it)) (λr s1=>r=none/\Inv X pins σ H s1) E s
 self:∀(A:Around)(i:Nat)(s:Shared)(Q:Value->Shared->Prop)(E:Value->Shared->Prop),tn i s.heap->Q (.ref it) s->wpAny (model P w) A (pyIter (.ref it)) Q E s
noncomputable abbrev TI:=St->Hp->(It->Hp->Prop)->Prop
noncomputable def PIE(X:Cx)(pins:List (Addr×Obj))(σ:St)(tg:Expr)(R:It->Hp->Prop)(itv:Value)(s2:Shared):Prop :=
 ∃(it:Addr)(fp:List Addr)(tn:Nat->Heap->Prop)(J:It)(H':Hp),itv=.ref it/\Inv X pins σ H' s2/\Turn X.prog X.w X.K tg J fp it tn/\tn 0 s2.heap/\(∀b∈fp,FpOk X pins H' b)/\R J H'
noncomputable def PI(X:Cx)(tg iter:Expr)(wi:TI):Prop :=
 ∀(pins:List (Addr×Obj))(s:Shared)(σ:St)(H:Hp)(R:It->Hp->Prop),Inv X pins σ H s->wi σ H R ->
  wpAny (model X.prog X.w) X.A (eval iter X.env) (λv s1=>wpAny (model X.prog X.w) X.A (pyIter v) (PIE X pins σ tg R) X.xe s1) X.xe s
theorem Qft{M:Model}{A:Around}{E:Value->Shared->Prop}{s:Shared}{tg:Expr}{it:Addr}{u:Value}{o:Obj}{n:String}{vs:Array Value}{Q:Unit->Shared->Prop}(ho:s.heap.get? it=some o)(hc:o.cls=.type n)(hd:o.data=.fields vs)(hn:["enumerate", "zip", "dict_itemiterator", "dict_reverseitemiterator", "odict_iterator", "itertools.zip_longest", "itertools.pairwise"].contains n=false)(hQ:Q () s):wpAny M A (letOwnedTupleGo tg (.ref it) u) Q E s:=by
  unfold letOwnedTupleGo
  cases tg <;> first
    |exact Uk hQ
    | (cases u <;> first
        |exact Uk hQ
        | (refine Ua (wpAny_load ho ?_)
           rw[hc,hd]
           show wpAny M A (if (["enumerate", "zip", "dict_itemiterator", "dict_reverseitemiterator", "odict_iterator", "itertools.zip_longest", "itertools.pairwise"].contains n && vs[0]? == some (rawInt _))=true then _ else _) Q E s
           rw[Uh (by intro h;rw[hn,TM]at h;cases h)]
           exact Uk hQ))
noncomputable def Itl(K:Frag)(a:Addr):It :=
 ⟨λi H=>∃xs x,SqL K H a xs/\xs[i]?=some x,λi H x H'=>H'=H/\∀xs,SqL K H a xs->xs[i]?=some x,λi H=>∃xs,SqL K H a xs/\xs.length<=i⟩
noncomputable def Itt(K:Frag)(a:Addr):It :=
 ⟨λi H=>∃xs x,SqT K H a xs/\xs[i]?=some x,λi H x H'=>H'=H/\∀xs,SqT K H a xs->xs[i]?=some x,λi H=>∃xs,SqT K H a xs/\xs.length<=i⟩
noncomputable def Itr(lo:Int)(n:Nat):It:=⟨λi _=>i<n,λi H x H'=>H'=H/\x=.int (lo+i),λi _=>n<=i⟩
theorem QdP{P:Program}{w:World}{K:Frag}{tg:Expr}(a it:Addr):Turn P w K tg (Itl K a) [it] it (λi h=>h.IsListIter it a i) where
 mem:=by simp
 obj:=λi h st b hb=>by
  have e:b=it:=by simpa using hb
  subst e
  obtain⟨o,e,c,d⟩:=st
  exact⟨o,e,λv z=>by rw[d]at z;cases z⟩
 keep:=λi h h' st k=>st.at λo e=>k it (by simp) o e
 item:=by
  intro X hP hw hK hc i pins s σ H E I hf st hg
  subst hP hw hK
  obtain⟨xs,x,hq,hx⟩:=hg
  obtain⟨its,rv,p,hz⟩:=I.list hq
  obtain⟨u,hu,ru⟩:=rv.get hx
  obtain⟨f0,f1,f2,f3,f4,f5⟩:=hf it (by simp)
  refine wpAny_pyNext_list_item st p.isList (x:=u) (by simpa using hu) λh' st' sb=>?_
  have I1:Inv X pins σ H {s with heap:=h'}:=I.turned (t':=s.toks) (λb o hb e=>(sb.2 b hb).trans e) f0 f1 f3 f4 f5
  obtain⟨o,e,c,d⟩:=id st'
  exact⟨u,rfl,Qft (s:={s with heap:=h'}) e c d (by decide) ⟨x,H,I1,ru,⟨rfl,λys hy=>by rw[I.list_inj hy hq];exact hx⟩,st',λb hb=>(hf b hb).1⟩⟩
 done:=by
  intro X hP hw hK hc i pins s σ H E I hf st hg
  subst hP hw hK
  obtain⟨xs,hq,hx⟩:=hg
  obtain⟨its,rv,p,hz⟩:=I.list hq
  obtain⟨f0,f1,f2,f3,f4,f5⟩:=hf it (by simp)
  have hl:=rv.length
  exact wpAny_pyNext_list_end (I.ok.hd hc) st p.isList (by simp;omega) λh' eb=>⟨rfl,I.turned (t':=s.toks) (λb o hb e=>eb b o hb e) f0 f1 f3 f4 f5⟩
 self:=λ_ _ _ _ _ st h=>wpAny_pyIter_listiter st h
theorem Qda{P:Program}{w:World}{K:Frag}{tg:Expr}(a it:Addr):Turn P w K tg (Itt K a) [it] it (λi h=>h.IsTupleIter it a i) where
 mem:=by simp
 obj:=λi h st b hb=>by
  have e:b=it:=by simpa using hb
  subst e
  obtain⟨o,e,c,d⟩:=st
  exact⟨o,e,λv z=>by rw[d]at z;cases z⟩
 keep:=λi h h' st k=>st.at λo e=>k it (by simp) o e
 item:=by
  intro X hP hw hK hc i pins s σ H E I hf st hg
  subst hP hw hK
  obtain⟨xs,x,hq,hx⟩:=hg
  obtain⟨its,rv,p,hz⟩:=I.tuple hq
  obtain⟨u,hu,ru⟩:=rv.get hx
  obtain⟨f0,f1,f2,f3,f4,f5⟩:=hf it (by simp)
  refine wpAny_pyNext_tuple_item st (show s.heap.IsTuple a its.toArray from p) (x:=u) (by simpa using hu) λh' st' sb=>?_
  have I1:Inv X pins σ H {s with heap:=h'}:=I.turned (t':=s.toks) (λb o hb e=>(sb.2 b hb).trans e) f0 f1 f3 f4 f5
  obtain⟨o,e,c,d⟩:=id st'
  exact⟨u,rfl,Qft (s:={s with heap:=h'}) e c d (by decide) ⟨x,H,I1,ru,⟨rfl,λys hy=>by rw[I.tuple_inj hy hq];exact hx⟩,st',λb hb=>(hf b hb).1⟩⟩
 done:=by
  intro X hP hw hK hc i pins s σ H E I hf st hg
  subst hP hw hK
  obtain⟨xs,hq,hx⟩:=hg
  obtain⟨its,rv,p,hz⟩:=I.tuple hq
  obtain⟨f0,f1,f2,f3,f4,f5⟩:=hf it (by simp)
  have hl:=rv.length
  exact wpAny_pyNext_tuple_end (I.ok.hd hc) st (show s.heap.IsTuple a its.toArray from p) (by simp;omega) λh' eb=>⟨rfl,I.turned (t':=s.toks) (λb o hb e=>eb b o hb e) f0 f1 f3 f4 f5⟩
 self:=λ_ _ _ _ _ st h=>wpAny_pyIter_tupleiter st h
theorem Qdb{P:Program}{w:World}{K:Frag}{tg:Expr}(it:Addr)(lo:Int)(n:Nat):Turn P w K tg (Itr lo n) [it] it (λi h=>IsRangeIter h it (lo+(i:Nat)*1) ((n:Int) - (i:Nat)) 1) where
 mem:=by simp
 obj:=λi h st b hb=>by
  have e:b=it:=by simpa using hb
  subst e
  exact⟨_,st,λv z=>by
   have z':Data.fields _=Data.cell v:=z
   cases z'⟩
 keep:=λi h h' st k=>k it (by simp) _ st
 item:=by
  intro X hP hw hK hc i pins s σ H E I hf st hg
  subst hP hw hK
  obtain⟨f0,f1,f2,f3,f4,f5⟩:=hf it (by simp)
  have W:=Walks.range (prog:=X.prog) (w:=X.w) (I.ok.hd hc) it lo 1 n
  refine W.item i s _ _ hg st λv h' tk hv st' kk=>?_
  obtain⟨t,rfl⟩:=hv
  have I1:Inv X pins σ H {s with heap:=h',toks:=tk}:=I.turned (λb o hb e=>kk b o (by simpa using hb) e) f0 f1 f3 f4 f5
  refine⟨_,rfl,Qft (s:={s with heap:=h',toks:=tk}) (n:="range_iterator") st' rfl rfl (by decide) ⟨.int (lo+i),H,I1,⟨t,?_⟩,⟨rfl,rfl⟩,st',λb hb=>(hf b hb).1⟩⟩
  rw[Int.mul_one]
 done:=by
  intro X hP hw hK hc i pins s σ H E I hf st hg
  subst hP hw hK
  obtain⟨f0,f1,f2,f3,f4,f5⟩:=hf it (by simp)
  exact wpAny_pyNext_range_end (I.ok.hd hc) st (by have:n<=i:=hg;omega) λh' eb=>⟨rfl,I.turned (t':=s.toks) (λb o hb e=>eb b o hb e) f0 f1 f3 f4 f5⟩
 self:=λ_ _ _ _ _ st h=>wpAny_pyIter_rangeiter st h
end
section
section
variable{X:Cx}{tg:Expr}
theorem Qfu{pins:List (Addr×Obj)}{σ:St}{H:Hp}{s:Shared}{R:It->Hp->Prop}{E:Value->Shared->Prop}{lo hi:Int}{t u v:Tok}{tk:Nat}(I:Inv X pins σ H s)(h1:-(2^62)<=lo)(h2:lo<2^62)(h3:-(2^62)<=hi)(h4:hi<2^62)(q:R (Itr lo (hi-lo).toNat) H):wpAny (model X.prog X.w) X.A (pyIter (.ref s.heap.objs.size)) (PIE X pins σ tg R) E {s with heap:=s.heap.push {cls:=.type "range",data:=.fields #[.int lo t,.int hi u,.int 1 v]},toks:=tk}:=by
 refine wpAny_pyIter_range (IsRange.new ..) (small_one h1 h2 h3 h4) ?_
 have I1:Inv X pins σ H {s with heap:=s.heap.push {cls:=.type "range",data:=.fields #[.int lo t,.int hi u,.int 1 v]},toks:=tk}:=I.kept λb o e=>Ub _ e
 refine⟨(s.heap.push {cls:=.type "range",data:=.fields #[.int lo t,.int hi u,.int 1 v]}).objs.size,[(s.heap.push {cls:=.type "range",data:=.fields #[.int lo t,.int hi u,.int 1 v]}).objs.size],_,_,H,rfl,
  I1.kept (t':=tk) λb o e=>Ub _ e,Qdb _ lo (hi-lo).toNat,?_,λb hb=>?_,q⟩
 ·have e1:lo+((0:Nat):Int)*1=lo:=by simp
  have e2:(((hi-lo).toNat:Nat):Int) - ((0:Nat):Int)=Builtin.Range.rangeSize lo hi 1:=by rw[rangeSize_one];split <;> omega
  show IsRangeIter _ _ (lo+((0:Nat):Int)*1) ((((hi-lo).toNat:Nat):Int) - ((0:Nat):Int)) 1
  rw[e1,e2]
  exact Ur _ rfl
 ·have e:b=(s.heap.push {cls:=.type "range",data:=.fields #[.int lo t,.int hi u,.int 1 v]}).objs.size:=by simpa using hb
  subst e
  exact I1.fpOk (Ul _) (I1.hok.fresh (Ul _))
noncomputable def Qjt(ta:TA):TI:=λσ H R=>ta σ H λvs H1=>∃j:Int,vs=[.int j] /\ -(2^62)<=j/\j<2^62/\R (Itr 0 j.toNat) H1
theorem QdQ{a:Expr}{ta:TA}{p pos:Pos}(hg:Gl X "range")(hm:X.mg "range" = none)(ha:PA X [a] ta)(hs:starEach [a] X.env=[(false,eval a X.env)]:=by rfl):PI X tg (.Call (.Name "range" p) [a] [] pos) (Qjt ta):=by
 intro pins s σ H R I h
 refine Call_ (Qao I hg hm boot_range (To (thn (ha pos pins s σ H _ I h) λus s1 ⟨vs,H1,I1,r1,q1⟩=>?_) hs rfl))
 obtain⟨j,e,q1,q2,q⟩:=q1
 subst e
 cases r1 with
 |cons r rr =>
  cases rr
  obtain⟨t,rfl⟩:=r
  exact call_range_1 (Qfu I1 (by omega) (by omega) q1 q2 (by simpa using q))
noncomputable def tFor(wi:TI)(g:TG)(tb:TS):TS:=λD σ H=>wi σ H λJ H1=>∃W:Nat->Nat->St->Hp->Prop,(∃m,W 0 m σ H1)/\∀i m σ H,W i m σ H ->
 (J.stop i H/\D.nx σ H)\/(J.go i H/\∃N:St->Hp->Prop,(∀σ' H',N σ' H'->∃m',m'<m/\W (i+1) m' σ' H')/\∀x H',J.yld i H x H'->g x σ H' λσ2 H2=>tb {D with nx:=N,ct:=N,bk:=D.nx} σ2 H2)
noncomputable def Qbd(fp:List Addr)(h:Heap):List (Addr×Obj):=fp.filterMap λb=>(h.get? b).map λo=>(b,o)
theorem Ys{fp:List Addr}{h:Heap}{b:Addr}{o:Obj}(hb:b∈fp)(e:h.get? b=some o):(b,o)∈Qbd fp h:=R0.mpr ⟨b,hb,by rw[e];rfl⟩
theorem QdR{fp:List Addr}{h:Heap}{p:Addr×Obj}(hp:p∈Qbd fp h):p.1∈fp/\h.get? p.1=some p.2:=by
 obtain⟨b,hb,e⟩:=R0.mp hp
 cases q:h.get? b with
 |none=>rw[q]at e;cases e
 |some o =>
  rw[q]at e
  have e':(b,o)=p:=Option.some.inj e
  subst e'
  exact⟨hb,q⟩
theorem Inv.pinned{pins:List (Addr×Obj)}{σ:St}{H:Hp}{s:Shared}{fp:List Addr}(I:Inv X pins σ H s)(hf:∀b∈fp,FpOk X pins H b)(ho:∀b∈fp,∃o,s.heap.get? b=some o/\∀v,o.data≠.cell v):Inv X (pins++Qbd fp s.heap) σ H s :=
 I.pins_of λp hp=>(UB.mp hp).elim (λz=>I.pin p (Uu _ z)) λz=>by
  obtain⟨hb,e⟩:=QdR z
  obtain⟨f0,f1,f2,_⟩:=hf p.1 hb
  obtain⟨o,e',d⟩:=ho p.1 hb
  rw[e]at e';cases e'
  exact⟨e,f0,f1,f2,d⟩
theorem Inv.unpinned{pins pl:List (Addr×Obj)}{σ:St}{H:Hp}{s:Shared}(I:Inv X (pins++pl) σ H s):Inv X pins σ H s:=I.pins_of λp hp=>I.pin p (Uu _ (UY _ hp))
theorem Qib{iter:Expr}{body:List Stmt}{wi:TI}{g:TG}{tb:TS}{pos:Pos}(hp:PassesOwn (model X.prog X.w) X.A X.env X.xe)(hc:X.calm=true)(hi:PI X tg iter wi)(hg:PG X tg g)(hb:PSs X body tb)(hs:∀x,foldedSetIterable iter X.env x=pure x:=by intro _;rfl):PS X (.For tg iter body [] pos) (tFor wi g tb):=by
 intro pins s σ H D I h
 refine wpAny_For (thn (hi pins s σ H _ I h) λv s1 h1=>thn h1 λitv s2 h2=>?_) hs
 obtain⟨it,fp,tn,J,H2,e,I2,T,st2,f2,W,⟨m0,w0⟩,turn⟩:=h2
 subst e
 -- what stays true of the iterator's objects through the loop
 have stat:∀{H':Hp},(∀b∈fp,H' b=none)->∀b∈fp,FpOk X pins H' b:=λhn b hb=>⟨hn b hb,(f2 b hb).2⟩
 refine codeAny_forLoop_any (λn s'=>∃i σ' H',Inv X pins σ' H' s'/\tn i s'.heap/\(∀b∈fp,H' b=none)/\W i n σ' H') ?_ m0 ⟨0,σ,H2,I2,st2,λb hb=>(f2 b hb).1,w0⟩
 rintro n s3 ⟨i,σ3,H3,I3,st3,fr3,w3⟩
 rcases turn i n σ3 H3 w3 with⟨stop,qn⟩|⟨go,N,hN,step⟩
 ·refine Rj hp (thn (T.done X rfl rfl rfl hc i pins s3 σ3 H3 X.xe I3 (stat fr3) st3 stop) λr s4 ⟨hr,I4⟩=>?_)
  subst hr
  exact Wx ⟨σ3,H3,I4,qn⟩
 ·refine Rj hp (thn (T.item X rfl rfl rfl hc i pins s3 σ3 H3 X.xe I3 (stat fr3) st3 go) λr s4 ⟨u,hr,h4⟩=>?_)
  subst hr
  refine Rj hp (thn h4 λ_ s5 ⟨x,H5,I5,r5,y5,st5,fr5⟩=>?_)
  have I5':=I5.pinned (stat fr5) (T.obj _ _ st5)
  refine Rj hp (thn (hg _ s5 σ3 H5 x u _ I5' r5 (step x H5 y5)) λ_ s6 ⟨σ6,H6,I6,q6⟩=>?_)
  refine Rj hp (thn (hb _ s6 σ6 H6 _ I6 q6) λf s7 q7=>?_)
  have again:∀{σ7:St}{H7:Hp},Inv X (pins++Qbd fp s5.heap) σ7 H7 s7->N σ7 H7->∃m,m<n/\∃i σ' H',Inv X pins σ' H' s7/\tn i s7.heap/\(∀b∈fp,H' b=none)/\W i m σ' H':=λ{σ7 H7} I7 n7=>by
   obtain⟨m',hm,w7⟩:=hN σ7 H7 n7
   refine⟨m',hm,i+1,σ7,H7,I7.unpinned,T.keep _ _ _ st5 λb hb o e=>(I7.pin (b,o) (Uu _ (Uu _ (Ys hb e)))).1,λb hb=>?_,w7⟩
   obtain⟨o,e,d⟩:=T.obj _ _ st5 b hb
   exact(I7.pin (b,o) (Uu _ (Uu _ (Ys hb e)))).2.1
  cases f with
  |next=>obtain⟨σ7,H7,I7,n7⟩:=q7;exact again I7 n7
  |cont=>obtain⟨σ7,H7,I7,n7⟩:=q7;exact again I7 n7
  |brk=>obtain⟨σ7,H7,I7,q7⟩:=q7;exact⟨σ7,H7,I7.unpinned,q7⟩
  |ret v=>obtain⟨x7,σ7,H7,I7,r7,q7⟩:=q7;exact⟨x7,σ7,H7,I7.unpinned,r7,q7⟩
end
end
section
noncomputable abbrev R2:=V->V->Hp->VK->Prop
noncomputable def OpR(X:Cx)(f:Value->Value->Sem Value)(r:R2):Prop :=
 ∀(pins:List (Addr×Obj))(s:Shared)(σ:St)(H:Hp)(x y:V)(v u:Value)(Q:VK),Inv X pins σ H s->RelV x v->RelV y u->r x y H Q ->
  wpAny (model X.prog X.w) X.A (f v u) (EP X pins σ Q) X.xe s
noncomputable def CallR(X:Cx)(f:Value)(r:List V->Hp->VK->Prop):Prop :=
 ∀(pins:List (Addr×Obj))(s:Shared)(σ:St)(H:Hp)(xs:List V)(us:List Value)(Q:VK),Inv X pins σ H s->Vals xs us->r xs H Q ->
  wpAny (model X.prog X.w) X.A (call f us) (EP X pins σ Q) X.xe s
noncomputable def tOp(r:R2)(ta tb:TE):TE:=λσ H Q=>ta σ H λx H1=>tb σ H1 λy H2=>r x y H2 Q
noncomputable def rI(C:Int->Int->Prop)(g:Int->Int->V):R2:=λx y H Q=>∃i j,x=.int i/\y=.int j/\C i j/\Q (g i j) H
noncomputable def rI0(g:Int->Int->V):R2:=λx y H Q=>∃i j,x=.int i/\y=.int j/\Q (g i j) H
section
variable{X:Cx}{a b c:Expr}{ta tb tc:TE}{pos:Pos}
theorem binT(ha:PE X a ta)(hb:PE X b tb){pins:List (Addr×Obj)}{s:Shared}{σ:St}{H:Hp}{R:V->V->Hp->Prop}(I:Inv X pins σ H s)(h:ta σ H λx H1=>tb σ H1 λy H2=>R x y H2){Q:Value->Shared->Prop}{f:Value->Value->Sem Value}(hf:∀v u s2 x y H2,Inv X pins σ H2 s2->RelV x v->RelV y u->R x y H2->wpAny (model X.prog X.w) X.A (f v u) Q X.xe s2):
  wpAny (model X.prog X.w) X.A (eval a X.env) (λv s₁=>wpAny (model X.prog X.w) X.A (eval b X.env) (λu s₂=>wpAny (model X.prog X.w) X.A (f v u) Q X.xe s₂) X.xe s₁) X.xe s:=by
 refine thn (ha pins s σ H _ I h) λv s1 ⟨x,H1,I1,r1,q1⟩=>?_
 refine thn (hb pins s1 σ H1 _ I1 q1) λu s2 ⟨y,H2,I2,r2,q2⟩=>?_
 exact hf v u s2 x y H2 I2 r1 r2 q2
theorem Qju{op:Operator}{r:R2}(ho:OpR X (binaryOp op) r)(ha:PE X a ta)(hb:PE X b tb):PE X (.BinOp a op b pos) (tOp r ta tb):=by
 intro pins s σ H Q I h
 exact wpAny_BinOp (binT ha hb I h λv u s2 x y H2 I2 rx ry q=>ho pins s2 σ H2 x y v u Q I2 rx ry q)
theorem opI{f:Value->Value->Sem Value}{C:Int->Int->Prop}{g:Int->Int->Int}(rule:∀(i j:Int) (t u:Tok) (s:Shared) (Q:Value->Shared->Prop) (E:Value->Shared->Prop),C i j->Q (.int (g i j) s.toks) {s with toks:=s.toks+1}->wpAny (model X.prog X.w) X.A (f (.int i t) (.int j u)) Q E s):
  OpR X f (rI C λi j=>.int (g i j)):=by
 intro pins s σ H x y v u Q I rx ry h
 obtain⟨i,j,rfl,rfl,hc,q⟩:=h
 obtain⟨t,rfl⟩:=rx
 obtain⟨t',rfl⟩:=ry
 exact rule i j t t' s _ _ hc ⟨.int (g i j),H,I.tok _,⟨_,rfl⟩,q⟩
theorem opI0{f:Value->Value->Sem Value}{g:Int->Int->Int}(rule:∀(i j:Int) (t u:Tok) (s:Shared) (Q:Value->Shared->Prop) (E:Value->Shared->Prop),Q (.int (g i j) s.toks) {s with toks:=s.toks+1}->wpAny (model X.prog X.w) X.A (f (.int i t) (.int j u)) Q E s):
  OpR X f (rI0 λi j=>.int (g i j)):=by
 intro pins s σ H x y v u Q I rx ry h
 obtain⟨i,j,rfl,rfl,q⟩:=h
 obtain⟨t,rfl⟩:=rx
 obtain⟨t',rfl⟩:=ry
 exact rule i j t t' s _ _ ⟨.int (g i j),H,I.tok _,⟨_,rfl⟩,q⟩
theorem opB0{f:Value->Value->Sem Value}{g:Int->Int->Bool}(rule:∀(i j:Int) (t u:Tok) (s:Shared) (Q:Value->Shared->Prop) (E:Value->Shared->Prop),Q (.bool (g i j)) s->wpAny (model X.prog X.w) X.A (f (.int i t) (.int j u)) Q E s):
  OpR X f (rI0 λi j=>.bl (g i j)):=by
 intro pins s σ H x y v u Q I rx ry h
 obtain⟨i,j,rfl,rfl,q⟩:=h
 obtain⟨t,rfl⟩:=rx
 obtain⟨t',rfl⟩:=ry
 exact rule i j t t' s _ _ ⟨.bl (g i j),H,I,rfl,q⟩
def CDiv(i j:Int):Prop:=0<j/\j<1073741824
def CPow(i j:Int):Prop:=0<=j/\j<=1000000/\i.natAbs<2^64
def CMul(i j:Int):Prop:=(-(2^64)<i/\i<2^64)\/(-(2^64)<j/\j<2^64)
theorem CMul.ok{i j:Int}(h:CMul i j):IntMulOk i j:=by
 rcases h with⟨h1,h2⟩|⟨h1,h2⟩
 ·exact .of_left (intBits_le_64 h1 h2)
 ·exact .of_right (intBits_le_64 h1 h2)
theorem op_add:OpR X (binaryOp .Add) (rI0 λi j=>.int (i+j)):=opI0 λ_ _ _ _ _ _ _ q=>add_int q
theorem Qic:OpR X (binaryOp .Sub) (rI0 λi j=>.int (i-j)):=opI0 λ_ _ _ _ _ _ _ q=>sub_int q
theorem op_mul:OpR X (binaryOp .Mult) (rI CMul λi j=>.int (i*j)):=opI λ_ _ _ _ _ _ _ hc q=>mul_int q hc.ok
theorem QgP:OpR X (binaryOp .FloorDiv) (rI CDiv λi j=>.int (i/j)):=opI λi j _ _ _ _ _ hc q=>by
 have h1:(0:Int)<j:=hc.1
 have h2:j<1073741824:=hc.2
 exact floordiv_int (by omega) (by rw[Int.fdiv_eq_ediv_of_nonneg i (by omega)];exact q) (.inl (PyProof.noPylong_small (by omega)))
theorem Qid:OpR X (binaryOp .Mod) (rI (λ_ j=>0<j) λi j=>.int (i%j)):=opI λi j _ _ _ _ _ hc q=>by
 have h1:(0:Int)<j:=hc
 exact mod_int' (by omega) (by rw[Int.fmod_eq_emod_of_nonneg i (by omega)];exact q)
theorem Qie:OpR X (binaryOp .Pow) (rI CPow λi j=>.int (i^j.toNat)):=opI λ_ _ _ _ _ _ _ hc q=>pow_int_small hc.1 hc.2.1 hc.2.2 q
end
noncomputable def scal:V->V->Bool
 |.non,.non=>true | .non,.int _=>true | .int _,.non=>true | .non,.bl _=>true | .bl _,.non=>true | .non,.str _=>true | .str _,.non=>true
 |.int _,.int _=>true | .bl _,.bl _=>true | .str _,.str _=>true | .byt _,.byt _=>true
 |.int _,.str _=>true | .str _,.int _=>true | .bl _,.str _=>true | .str _,.bl _=>true
 |_,_=>false
noncomputable def rEq:R2:=λx y H Q=>scal x y=true/\Q (.bl (decide (x=y))) H
noncomputable def rNe:R2:=λx y H Q=>scal x y=true/\Q (.bl (!decide (x=y))) H
theorem QaA{i j:Int}:decide (V.int i=V.int j)=(i == j):=by
 rw[TW]
 simp
theorem Qcv{i j:Bool}:decide (V.bl i=V.bl j)=(i == j):=by
 rw[TW]
 simp
theorem QaB{i j:Str}:decide (V.str i=V.str j)=(i == j):=by
 rw[TW]
 simp
theorem QdS{i j:Array UInt8}:decide (V.byt i=V.byt j)=(i.toList == j.toList):=by
 rw[TW]
 cases i
 cases j
 simp
section
variable{X:Cx}{a b c:Expr}{ta tb tc:TE}{pos:Pos}
theorem QC{pins:List (Addr×Obj)}{σ:St}{H:Hp}{s:Shared}{Q:VK}{k k':Bool}(I:Inv X pins σ H s)(q:Q (.bl k) H)(e:k=k'):EP X pins σ Q (.bool k') s:=by
 subst e
 exact⟨.bl k,H,I,rfl,q⟩
theorem Qif:OpR X (compareOp .Eq) rEq:=by
 intro pins s σ H x y v u Q I rx ry h
 obtain⟨hs,q⟩:=h
 cases x with
 |non =>
  cases rx
  cases y with
  |non=>cases ry;exact PySem.EqNone.eq_none_none (QC I q (by simp))
  |bl j=>cases ry;exact PySem.EqNone.eq_none_bool (QC I q (by simp))
  |int j=>obtain⟨t',rfl⟩:=ry;exact PySem.EqNone.eq_none_int (QC I q (by simp))
  |str j=>obtain⟨t',rfl⟩:=ry;exact PySem.EqNone.eq_none_str (QC I q (by simp))
  |_=>exact absurd (show false=true from hs) Ud
 |bl i =>
  cases rx
  cases y with
  |non=>cases ry;exact PySem.EqNone.eq_bool_none (QC I q (by simp))
  |bl j=>cases ry;exact eq_bool (QC I q Qcv)
  |str j=>obtain⟨t',rfl⟩:=ry;exact PySem.EqMixed.eq_bool_str (QC I q (by simp))
  |_=>exact absurd (show false=true from hs) Ud
 |int i =>
  obtain⟨t,rfl⟩:=rx
  cases y with
  |non=>cases ry;exact PySem.EqNone.eq_int_none (QC I q (by simp))
  |int j=>obtain⟨t',rfl⟩:=ry;exact eq_int (QC I q QaA)
  |str j=>obtain⟨t',rfl⟩:=ry;exact PySem.EqMixed.eq_int_str (QC I q (by simp))
  |_=>exact absurd (show false=true from hs) Ud
 |str i =>
  obtain⟨t,rfl⟩:=rx
  cases y with
  |non=>cases ry;exact PySem.EqNone.eq_str_none (QC I q (by simp))
  |bl j=>cases ry;exact PySem.EqMixed.eq_str_bool (QC I q (by simp))
  |int j=>obtain⟨t',rfl⟩:=ry;exact PySem.EqMixed.eq_str_int (QC I q (by simp))
  |str j=>obtain⟨t',rfl⟩:=ry;exact eq_str (QC I q QaB)
  |_=>exact absurd (show false=true from hs) Ud
 |byt i =>
  obtain⟨t,rfl⟩:=rx
  cases y with
  |byt j=>obtain⟨t',rfl⟩:=ry;exact eq_bytes (QC I q QdS)
  |_=>exact absurd (show false=true from hs) Ud
 |_=>cases y <;> exact absurd (show false=true from hs) Ud
theorem op_ne:OpR X (compareOp .NotEq) rNe:=by
 intro pins s σ H x y v u Q I rx ry h
 obtain⟨hs,q⟩:=h
 cases x with
 |non =>
  cases rx
  cases y with
  |non=>cases ry;exact PySem.EqNone.ne_none_none (QC I q (by simp))
  |bl j=>cases ry;exact PySem.EqNone.ne_none_bool (QC I q (by simp))
  |int j=>obtain⟨t',rfl⟩:=ry;exact PySem.EqNone.ne_none_int (QC I q (by simp))
  |str j=>obtain⟨t',rfl⟩:=ry;exact PySem.EqNone.ne_none_str (QC I q (by simp))
  |_=>exact absurd (show false=true from hs) Ud
 |bl i =>
  cases rx
  cases y with
  |non=>cases ry;exact PySem.EqNone.ne_bool_none (QC I q (by simp))
  |bl j=>cases ry;exact ne_bool (QC I q (TU not Qcv))
  |str j=>obtain⟨t',rfl⟩:=ry;exact PySem.EqMixed.ne_bool_str (QC I q (by simp))
  |_=>exact absurd (show false=true from hs) Ud
 |int i =>
  obtain⟨t,rfl⟩:=rx
  cases y with
  |non=>cases ry;exact PySem.EqNone.ne_int_none (QC I q (by simp))
  |int j=>obtain⟨t',rfl⟩:=ry;exact ne_int (QC I q (TU not QaA))
  |str j=>obtain⟨t',rfl⟩:=ry;exact PySem.EqMixed.ne_int_str (QC I q (by simp))
  |_=>exact absurd (show false=true from hs) Ud
 |str i =>
  obtain⟨t,rfl⟩:=rx
  cases y with
  |non=>cases ry;exact PySem.EqNone.ne_str_none (QC I q (by simp))
  |bl j=>cases ry;exact PySem.EqMixed.ne_str_bool (QC I q (by simp))
  |int j=>obtain⟨t',rfl⟩:=ry;exact PySem.EqMixed.ne_str_int (QC I q (by simp))
  |str j=>obtain⟨t',rfl⟩:=ry;exact ne_str (QC I q (TU not QaB))
  |_=>exact absurd (show false=true from hs) Ud
 |byt i =>
  obtain⟨t,rfl⟩:=rx
  cases y with
  |byt j=>obtain⟨t',rfl⟩:=ry;exact ne_bytes (QC I q (TU not QdS))
  |_=>exact absurd (show false=true from hs) Ud
 |_=>cases y <;> exact absurd (show false=true from hs) Ud
theorem Qig:OpR X (compareOp .Lt) (rI0 λi j=>.bl (decide (i<j))):=opB0 λ_ _ _ _ _ _ _ q=>lt_int q
theorem QgQ:OpR X (compareOp .LtE) (rI0 λi j=>.bl (decide (i<=j))):=opB0 λ_ _ _ _ _ _ _ q=>le_int q
theorem Qjv:OpR X (compareOp .Gt) (rI0 λi j=>.bl (decide (j<i))):=opB0 λ_ _ _ _ _ _ _ q=>gt_int q
theorem QdT:OpR X (compareOp .In) (λx y H Q=>∃i j,x=.str i/\y=.str j/\Q (.bl (!(Builtin.Str.occurrences j i 0 j.length 1).isEmpty)) H):=by
 intro pins s σ H x y v u Q I rx ry h
 obtain⟨i,j,rfl,rfl,q⟩:=h
 obtain⟨t,rfl⟩:=rx
 obtain⟨t',rfl⟩:=ry
 exact in_str (QC I q rfl)
theorem Qgn:OpR X (compareOp .Is) (λx y H Q=>y=.non/\Q (.bl (decide (x=.non))) H):=by
 intro pins s σ H x y v u Q I rx ry h
 obtain⟨rfl,q⟩:=h
 cases ry
 refine is_none_gen (QC I q ?_)
 cases x <;> first
  | (cases rx;rfl)
  | (obtain⟨t,rfl⟩:=rx;rfl)
theorem QgR:OpR X (compareOp .IsNot) (λx y H Q=>y=.non/\Q (.bl (!decide (x=.non))) H):=by
 intro pins s σ H x y v u Q I rx ry h
 obtain⟨rfl,q⟩:=h
 cases ry
 refine isnot_none_gen (QC I q ?_)
 cases x <;> first
  | (cases rx;rfl)
  | (obtain⟨t,rfl⟩:=rx;rfl)
theorem OpR.or{f:Value->Value->Sem Value}{r r':R2}(h:OpR X f r)(h':OpR X f r'):OpR X f (λx y H Q=>r x y H Q\/r' x y H Q):=by
 intro pins s σ H x y v u Q I rx ry q
 rcases q with q|q
 ·exact h pins s σ H x y v u Q I rx ry q
 ·exact h' pins s σ H x y v u Q I rx ry q
theorem YM(b:Expr){op:CmpOp}(h:op≠.In:=by decide)(h2:op≠.NotIn:=by decide):behindInMarks op b=false:=by
 have e1:(op == CmpOp.In)=false:=by cases op <;> first|rfl|exact absurd rfl h
 have e2:(op == CmpOp.NotIn)=false:=by cases op <;> first|rfl|exact absurd rfl h2
 cases b <;> simp[behindInMarks,e1,e2]
theorem QgS{op:CmpOp}{r:R2}(ho:OpR X (compareOp op) r)(ha:PE X a ta)(hb:PE X b tb)(hm:behindInMarks op b=false):PE X (.Compare a [op] [b] pos) (tOp r ta tb):=by
 intro pins s σ H Q I h
 exact wpAny_Compare1 (binT ha hb I h λv u s2 x y H2 I2 rx ry q=>ho pins s2 σ H2 x y v u Q I2 rx ry q) hm
noncomputable def Qjw(t:TE):TT:=λσ H Q=>t σ H λx H'=>∃k,x=.bl k/\Q k H'
theorem QgT{op:CmpOp}{r:R2}(ho:OpR X (compareOp op) r)(ha:PE X a ta)(hb:PE X b tb)(hm:behindInMarks op b=false):PT X (.Compare a [op] [b] pos) (Qjw (tOp r ta tb)):=by
 intro pins s σ H Q I h
 refine wpAny_isTrue_Compare1 (thn (ha pins s σ H _ I h) λv s1 ⟨x,H1,I1,r1,q1⟩=>thn (hb pins s1 σ H1 _ I1 q1) λu s2 ⟨y,H2,I2,r2,q2⟩ =>
  thn (ho pins s2 σ H2 x y v u _ I2 r1 r2 q2) λc s3 ⟨z,H3,I3,r3,k,e,q3⟩=>?_) hm
 subst e
 cases r3
 exact Ti ⟨H3,I3,q3⟩
noncomputable def Qgo(r r':R2)(ta tb tc:TE):TE:=λσ H Q=>ta σ H λx H1=>tb σ H1 λy H2=>r x y H2 λz H3=>∃k,z=.bl k /\
 (if k=true then tc σ H3 λw' H4=>r' y w' H4 Q else Q (.bl false) H3)
theorem Qcw{op op':CmpOp}{r r':R2}(ho:OpR X (compareOp op) r)(ho':OpR X (compareOp op') r')(ha:PE X a ta)(hb:PE X b tb)(hc:PE X c tc)(hm:lastMarks [op,op'] [b,c]=false:=by with_unfolding_all rfl):PE X (.Compare a [op,op'] [b,c] pos) (Qgo r r' ta tb tc):=by
 intro pins s σ H Q I h
 refine Compare_chain (thn (ha pins s σ H _ I h) λv s1 ⟨x,H1,I1,r1,q1⟩=>chain_link (thn (hb pins s1 σ H1 _ I1 q1) λu s2 ⟨y,H2,I2,r2,q2⟩ =>
  thn (ho pins s2 σ H2 x y v u _ I2 r1 r2 q2) λd s3 ⟨z,H3,I3,r3,k,e,q3⟩=>?_)) hm
 subst e
 cases r3
 refine Ti ?_
 cases k with
 |false=>exact ite_ff ⟨.bl false,H3,I3,rfl,q3⟩
 |true=>exact ite_tt (chain_last (thn (hc pins s3 σ H3 _ I3 q3) λw' s4 ⟨z',H4,I4,r4,q4⟩=>ho' pins s4 σ H4 y z' u w' Q I4 r2 r4 q4))
theorem Qap:(sizeLine:Nat)<2^63:=by rw[Tc];decide
theorem Qdc:OpR X (binaryOp .Add) (λx y H Q=>∃i j,x=.str i/\y=.str j/\i.length+j.length<=sizeLine/\Q (.str (i++j)) H):=by
 intro pins s σ H x y v u Q I rx ry h
 obtain⟨i,j,rfl,rfl,hz,q⟩:=h
 obtain⟨t,rfl⟩:=rx
 obtain⟨t',rfl⟩:=ry
 exact add_str (λt' tk=>⟨.str (i++j),H,I.tok _,⟨_,rfl⟩,q⟩) hz
theorem QdU{x:V}{us:List Value}(r:Vals [x] us):∃u,us=[u]/\RelV x u:=by
 cases r with
 |cons r1 r2=>cases r2;exact⟨_,rfl,r1⟩
theorem QgU{x y:V}{us:List Value}(r:Vals [x,y] us):∃u w',us=[u,w']/\RelV x u/\RelV y w':=by
 cases r with
 |cons r1 r2 =>
  cases r2 with
  |cons r3 r4=>cases r4;exact⟨_,_,rfl,r1,r3⟩
theorem QdV(hc:X.calm=true):CallR X (.builtin "max") (λxs H Q=>∃i j,xs=[.int i,.int j]/\Q (.int (if j > i then j else i)) H):=by
 intro pins s σ H xs us Q I r h
 obtain⟨i,j,rfl,q⟩:=h
 obtain⟨u,w',rfl,⟨t,rfl⟩,⟨t',rfl⟩⟩:=QgU r
 refine max_two_ints (I.ok.hd hc) λh' tk k=>⟨_,H,I.kept k,?_,q⟩
 by_cases hj:j > i
 ·rw[Uf hj,Uf hj];exact⟨_,rfl⟩
 ·rw[Uh hj,Uh hj];exact⟨_,rfl⟩
theorem QdW(hc:X.calm=true):CallR X (.builtin "min") (λxs H Q=>∃i j,xs=[.int i,.int j]/\Q (.int (if j<i then j else i)) H):=by
 intro pins s σ H xs us Q I r h
 obtain⟨i,j,rfl,q⟩:=h
 obtain⟨u,w',rfl,⟨t,rfl⟩,⟨t',rfl⟩⟩:=QgU r
 refine min_two_ints (I.ok.hd hc) λh' tk k=>⟨_,H,I.kept k,?_,q⟩
 by_cases hj:j<i
 ·rw[Uf hj,Uf hj];exact⟨_,rfl⟩
 ·rw[Uh hj,Uh hj];exact⟨_,rfl⟩
theorem Qbe:CallR X (.type "str") (λxs H Q=>∃i,xs=[.int i]/\i.natAbs.log2<1920/\Q (.str (toString i)) H):=by
 intro pins s σ H xs us Q I r h
 obtain⟨i,rfl,hz,q⟩:=h
 obtain⟨u,rfl,t,rfl⟩:=QdU r
 exact PySem.P.str_of_int hz ⟨.str _,H,I.tok _,⟨_,rfl⟩,q⟩
end
end
section
structure ObjM(h:Heap)(x dx C:Addr)(mA:Str->Option Value):Prop where
 obj:h.get? x=some (instObj C dx)
 ns:h.Ns1 dx mA
 ne:dx≠x
theorem Qbf{h:Heap}{dx:Addr}{mA:Str->Option Value}(n:h.Ns1 dx mA):∃od,h.get? dx=some od/\∀name,lookIn name od=some (mA name):=by
 obtain⟨o,es,ep,ho,hd,hk,_,hm⟩:=n
 refine⟨o,ho,λname=>?_⟩
 have e:=hm name
 unfold nsFind findBy at e
 rw[<-Array.find?_toList]at e
 unfold lookIn
 rw[hd]
 dsimp only
 split
 ·rename_i y q
  rw[q]at e
  exact TU some e
 ·rename_i q
  rw[q]at e
  have a:es.toList.any (·.refKey)=false:=by
   rw[List.any_eq_false]
   intro y hy
   obtain⟨z,t,hkey⟩:=hk y (Array.mem_toList_iff.mp hy)
   simp[DictEntry.refKey,hkey]
  have a':¬es.toList.any (·.refKey)=true:=by rw[a];exact Ud
  rw[Uh a']
  exact TU some e
theorem ObjM.look{h:Heap}{x dx C:Addr}{mA:Str->Option Value}(I:ObjM h x dx C mA):∃od,PySem.W.InstAt h x (instObj C dx) C (some od)/\∀name,lookIn name od=some (mA name) :=
 let ⟨od,ho,hl⟩:=Qbf I.ns
 ⟨od,⟨I.obj,rfl,rfl,ho⟩,hl⟩
section
variable{prog:Program}{w:World}{A:Around}{E:Value->Shared->Prop}{s:Shared}{K:Frag}{x dx C f:Addr}{mA:Str->Option Value}{name:Str}{v:Value}
theorem QgV{expr:Bool}{Q:Value->Shared->Prop}(X:K.In s.heap)(I:ObjM s.heap x dx C mA)(hg:plainGet K C name=true)(hh:hasDictIn K C=true)(ha:findIn K (.ref C) name=some none)(hv:mA name=some v)(hv':handedIn v=true)(h:Q v {s with toks:=s.toks+1}):
  wpAny (model prog w) A (getAttr (.ref x) name expr) Q E s:=by
 obtain⟨od,J,hl⟩:=I.look
 exact get_value X J (plainGet_of hg).1 (findObj_own hh ha rfl (by rw[hl,hv])) hv' h
theorem QgW{ns:List Str}{Q:Unit->Shared->Prop}(X:K.In s.heap)(I:ObjM s.heap x dx C mA)(hs:findIn K (.ref C) "__setattr__" = some (some (.builtin "object.__setattr__")))(hp:plainOver K C=true)(ht:takerIn K C name=some none)(hh:hasDictIn K C=true)(hw:PySem.Within mA ns)(hsz:ns.length<=sizeLine)(h:∀h',ObjM h' x dx C (λy=>if y=name then some v else mA y)->Heap.SameBut dx s.heap h'->Q () {s with heap:=h',toks:=s.toks+2}):
  wpAny (model prog w) A (setAttr (.ref x) name v) Q E s:=by
 obtain⟨od,J,hl⟩:=I.look
 refine set_plain X J hs (osa_open (s:={s with toks:=s.toks+1}) (r:=none) X J hp ht λb=>?_)
 obtain⟨cd,hc,hd'⟩:=any_some hh
 have hx:s.heap.get? x=some ⟨.ref C,some dx,.plain,#[]⟩:=I.obj
 refine Ua (Uk (Ua (Ua (Wa hx (Ua (Looks.here (s:={s with toks:=s.toks+1}) (RS X hc) ?_))))))
 rw[hd']
 refine Uk (a:=some dx) (Ua (Uk (Ua ?_)))
 refine wpAny_nsSet1 (s:={s with toks:=s.toks+1}) I.ns λh' hn2 hs2=>?_
 obtain⟨oD,esD,epD,hoD,hdD,hcD⟩:=hn2.count (PySem.Within.cons name v hw)
 refine Ua (wpAny_lookBehind hoD (by rw[hdD];exact pastItsLine_dict (Uo hcD (by rw[Uz];omega))) ?_)
 exact Uk (h _ ⟨(hs2.2 _ (Ne.symm I.ne)).trans I.obj,hn2,I.ne⟩ hs2)
theorem Qfv{R:Result->Shared->Prop}{vs:List Value}{kw:List (Str×Value)}(X:K.In s.heap)(hm:makesIn K C=true)(hi:findIn K (.ref C) "__init__" = some (some (.ref f)))(hf:typeIn K (.ref f)=some (.type "function"))(h:codeAny (model prog w) (A.under (.builtin "type.__call__" ⟨.ref C::vs,kw⟩)) (.call (.ref f) ⟨.ref (s.heap.objs.size+1)::vs,kw⟩) (InitBack (s.heap.objs.size+1) R)
   {s with heap:=(s.heap.push emptyDict).push (instObj C s.heap.objs.size)}):
  codeAny (model prog w) A (.call (.ref C) ⟨vs,kw⟩) R s:=by
 obtain⟨hh,g,d,t,os⟩:=s
 exact make_core (makes_of X hm) (Tf X hi) (λself=>bind_fn X self hf) (.inl rfl) h
end
noncomputable def putF(f:Str)(v:V):List (Str×V)->List (Str×V)
 |[]=>[(f,v)]
 | (g,x)::r=>if g=f then (g,v)::r else (g,x)::putF f v r
theorem JC(f g:Str)(v:V):∀fs:List (Str×V),(putF f v fs).lookup g=if g=f then some v else fs.lookup g
 |[]=>by
  show List.lookup g [(f,v)]=_
  by_cases h:g=f
  ·have hb:(g == f)=true:=UT.mpr h
   simp only[List.lookup,hb,Uf h]
  ·have hb:(g == f)=false:=Uq.mpr h
   simp only[List.lookup,hb,Uh h]
 | (k,x)::r=>by
  have ih:=JC f g v r
  rw[show putF f v ((k,x)::r)=(if k=f then (k,v)::r else (k,x)::putF f v r) from rfl]
  by_cases hk:k=f
  ·rw[Uf hk]
   by_cases h:g=k
   ·have hb:(g == k)=true:=UT.mpr h
    simp only[List.lookup,hb,Uf (h.trans hk)]
   ·have hb:(g == k)=false:=Uq.mpr h
    simp only[List.lookup,hb,Uh (λe:g=f=>h (e.trans hk.symm))]
  ·rw[Uh hk]
   by_cases h:g=k
   ·have hb:(g == k)=true:=UT.mpr h
    simp only[List.lookup,hb,Uh (λe:g=f=>hk (h.symm.trans e))]
   ·have hb:(g == k)=false:=Uq.mpr h
    simp only[List.lookup,hb]
    exact ih
theorem JD(f:Str)(v:V):∀fs:List (Str×V),f∈(putF f v fs).map (·.1)/\∀g,g∈fs.map (·.1)->g∈(putF f v fs).map (·.1)
 |[]=>⟨by simp[putF],λg h=>by simp at h⟩
 | (k,x)::r=>by
  obtain⟨i1,i2⟩:=JD f v r
  rw[show putF f v ((k,x)::r)=(if k=f then (k,v)::r else (k,x)::putF f v r) from rfl]
  by_cases hk:k=f
  ·rw[Uf hk]
   subst hk
   exact⟨by simp,λg h=>by simpa using h⟩
  ·rw[Uh hk]
   refine⟨?_,λg h=>?_⟩
   ·rw[UO]
    exact Uj _ i1
   ·rw[UO]at h ⊢
    rcases UG.mp h with e|e
    ·exact UG.mpr (.inl e)
    ·exact Uj _ (i2 g e)
theorem JE(f:Str)(v:V):∀fs:List (Str×V),(putF f v fs).length<=fs.length+1
 |[]=>by simp[putF]
 | (k,x)::r=>by
  have ih:=JE f v r
  rw[show putF f v ((k,x)::r)=(if k=f then (k,v)::r else (k,x)::putF f v r) from rfl]
  by_cases hk:k=f
  ·rw[Uf hk,Uz,Uz];omega
  ·rw[Uh hk,Uz,Uz];omega
theorem RelO.some_of{v:V}{o:Option Value}(r:RelO (some v) o):∃u,o=some u/\RelV v u:=by
 cases o with
 |none=>exact(show False from r).elim
 |some u=>exact⟨u,rfl,r⟩
theorem Qbg{v:V}{u:Value}(r:RelV v u):handedIn u=true:=by
 cases v with
 |non=>cases (show u=Value.none from r);rfl
 |bl b=>cases (show u=Value.bool b from r);rfl
 |int i=>obtain⟨t,e⟩:=(show ∃t,u=Value.int i t from r);cases e;rfl
 |str x=>obtain⟨t,e⟩:=(show ∃t,u=Value.str x t from r);cases e;rfl
 |byt b=>obtain⟨t,e⟩:=(show ∃t,u=Value.bytes b t from r);cases e;rfl
 |flt b=>obtain⟨t,e⟩:=(show ∃t,u=Value.float b t from r);cases e;rfl
 |ref a=>cases (show u=Value.ref a from r);rfl
 |ty n=>cases (show u=Value.type n from r);rfl
section
variable{P:Program}{w:World}{H H':Hp}{h h':Heap}{a C dx:Addr}{fs fs':List (Str×V)}
theorem QbY(hok:HOk P w H h)(e:H a=some (.ins C dx fs)):∃mA,ObjM h a dx C mA/\(∀f,RelO (fs.lookup f) (mA f))/\PySem.Within mA (fs.map (·.1))/\fs.length<=1000/\H dx=some (.own a):=by
 obtain⟨d,z,ne,ob,mA,n,r,q⟩:=(show ObjOk P w H h a (.ins C dx fs) from hok a _ e)
 exact⟨mA,⟨ob,n,ne⟩,r,q,z,d⟩
end
structure Cls(K:Frag)(C:Addr):Prop where
 pg:plainGet K C Str.empty=true
 hd:hasDictIn K C=true
 po:plainOver K C=true
 sa:findIn K (.ref C) "__setattr__" = some (some (.builtin "object.__setattr__"))
theorem Cls.get{K:Frag}{C:Addr}(c:Cls K C)(f:Str):plainGet K C f=true:=c.pg
def NoAttr(K:Frag)(C:Addr)(f:Str):Prop:=findIn K (.ref C) f=some none
theorem NoAttr.taker{K:Frag}{C:Addr}{f:Str}(n:NoAttr K C f):takerIn K C f=some none:=by
 unfold takerIn
 rw[show findIn K (.ref C) f=some none from n]
 rfl
section
variable{X:Cx}{pins:List (Addr×Obj)}{σ:St}{H:Hp}{s:Shared}{a C dx:Addr}{fs:List (Str×V)}{f:Str}{v:V}{A:Around}{E:Value->Shared->Prop}
theorem Qdd{b:Bool}{Q:Value->Shared->Prop}(I:Inv X pins σ H s)(e:H a=some (.ins C dx fs))(c:Cls X.K C)(n:NoAttr X.K C f)(l:fs.lookup f=some v)(h:∀u s',Inv X pins σ H s'->RelV v u->Q u s'):wpAny (model X.prog X.w) A (getAttr (.ref a) f b) Q E s:=by
 obtain⟨mA,O,r,_,_,_⟩:=QbY I.hok e
 obtain⟨u,hu,ru⟩:=RelO.some_of (v:=v) (o:=mA f) (by rw[<-l];exact r f)
 exact QgV I.kIn O (c.get f) c.hd n hu (Qbg ru) (h u _ (I.tok _) ru)
theorem Qde{y:V}{u:Value}{Q:Unit->Shared->Prop}(I:Inv X pins σ H s)(e:H a=some (.ins C dx fs))(c:Cls X.K C)(n:NoAttr X.K C f)(hl:fs.length<1000)(ry:RelV y u)(h:∀s',Inv X pins σ (upd H a (.ins C dx (putF f y fs))) s'->Q () s'):wpAny (model X.prog X.w) A (setAttr (.ref a) f u) Q E s:=by
 obtain⟨mA,O,r,wi,_,ho⟩:=QbY I.hok e
 have hz:(fs.map (·.1)).length<=sizeLine:=by rw[Uc,Tc];omega
 refine QgW I.kIn O c.sa c.po n.taker c.hd wi hz λh' O' sb=>h _ ?_
 have hd:∃o,h'.get? dx=some o:=let ⟨o,_,_,e',_⟩:=O'.ns;⟨o,e'⟩
 refine I.write (x:=a) (e:=dx) (by rw[e];exact True.intro) (.inr ho) (λb q hb z=>(sb.2 b hb).trans z) hd ?_
 refine⟨by rw[Qh O.ne];exact ho,?_,O.ne,O'.obj,_,O'.ns,λg=>?_,λg hg=>?_⟩
 ·have:=JE f y fs;omega
 ·show RelO ((putF f y fs).lookup g) (if g=f then some u else mA g)
  rw[JC]
  by_cases q:g=f
  ·rw[Uf q,Uf q];exact ry
  ·rw[Uh q,Uh q];exact r g
 ·by_cases q:g=f
  ·rw[q];exact(JD f y fs).1
  ·refine(JD f y fs).2 g (wi g λz=>hg ?_)
   show(if g=f then some u else mA g)=none
   rw[Uh q];exact z
theorem Inv.made(I:Inv X pins σ H s):Inv X pins σ (upd (upd H s.heap.objs.size (.own (s.heap.objs.size+1))) (s.heap.objs.size+1) (.ins C s.heap.objs.size []))
  {s with heap:=(s.heap.push emptyDict).push (instObj C s.heap.objs.size)}:=by
 have e1:(s.heap.push emptyDict).get? s.heap.objs.size=some emptyDict:=Ur s.heap rfl
 have e2:((s.heap.push emptyDict).push (instObj C s.heap.objs.size)).get? (s.heap.objs.size+1)=some (instObj C s.heap.objs.size):=by
  have:=Ur (s.heap.push emptyDict) (o:=instObj C s.heap.objs.size) rfl
  rwa[Th]at this
 have e3:(s.heap.push emptyDict).Ns s.heap.objs.size (λ_=>none):=⟨emptyDict,#[],_,e1,rfl,(λe he=>absurd he (by simp)),λ_=>rfl⟩
 have I1:=I.laid (a:=s.heap.objs.size) (o:=.own (s.heap.objs.size+1)) (h':=s.heap.push emptyDict) (t':=s.toks) (λb u q=>Ub _ q) (Ul _) ⟨_,e1⟩
 refine I1.laid (a:=s.heap.objs.size+1) (o:=.ins C s.heap.objs.size []) (t':=s.toks) (λb u q=>Ub _ q) (Nat.le_of_eq (Th _ _)) ?_
 have ne:s.heap.objs.size≠s.heap.objs.size+1:=UK (Tp _)
 refine⟨by rw[Qh ne,Ql],BB _,ne,e2,λ_=>none,(Heap.Ns1.of_empty e3).at λo q=>Ub _ q,λ_=>True.intro,λy hy=>absurd rfl hy⟩
theorem QdX{prog:Program}{w:World}{env:Env}{e:Expr}{f:Str}{pos:Pos}{s:Shared}{Q:Value->Shared->Prop}(hb:attributeBase e f env (eval e env)=eval e env)(h:wpAny (model prog w) A (eval e env) (λo s₁=>wpAny (model prog w) A (getAttr o f true) Q E s₁) E s):wpAny (model prog w) A (eval (.Attribute e f pos) env) Q E s :=
 Attribute_any_ h (by rw[arm_eval_Attribute,hb])
end
noncomputable def tFld(K:Frag)(ta:TE)(f:Str):TE:=λσ H Q=>ta σ H λx H1=>∃a C dx fs v,x=.ref a/\H1 a=some (.ins C dx fs)/\Cls K C/\NoAttr K C f/\fs.lookup f=some v/\Q v H1
noncomputable def sFld(K:Frag)(ta tv:TE)(f:Str):TS:=λD σ H=>tv σ H λy H1=>ta σ H1 λx H2=>∃a C dx fs,x=.ref a/\H2 a=some (.ins C dx fs)/\Cls K C/\NoAttr K C f/\fs.length<1000 /\
 D.nx σ (upd H2 a (.ins C dx (putF f y fs)))
section
variable{X:Cx}{o e value:Expr}{f:Str}{pos pos' tpos:Pos}{ta tv:TE}
theorem Qih(he:PE X e ta)(hb:attributeBase e f X.env (eval e X.env)=eval e X.env):PE X (.Attribute e f pos) (tFld X.K ta f):=by
 intro pins s σ H Q I h
 refine QdX hb (thn (he pins s σ H _ I h) λu s1 ⟨x,H1,I1,rx,a,C,dx,fs,v,ex,ea,c,n,l,q⟩=>?_)
 subst ex
 obtain rfl:u=Value.ref a:=rx
 exact Qdd I1 ea c n l λu' s2 I2 ru=>⟨v,H1,I2,ru,q⟩
theorem Qii(ha:PE X o ta)(hv:PE X value tv)(hs:swapsWith value (some (.Attribute o f pos')) pos.line X.env=pure false):PS X (.Assign [.Attribute o f pos'] value pos) (sFld X.K ta tv f):=by
 intro pins s σ H D I h
 refine Rz (thn (hv pins s σ H _ I h) λu s1 ⟨y,H1,I1,ry,q⟩=>thn (ha pins s1 σ H1 _ I1 q) λov s2 ⟨x,H2,I2,rx,a,C,dx,fs,ex,ea,c,n,l,q2⟩=>?_) hs
 subst ex
 obtain rfl:ov=Value.ref a:=rx
 exact Qde I2 ea c n l ry λs3 I3=>⟨σ,_,I3,q2⟩
end
section
variable{X:Cx}{pins:List (Addr×Obj)}{σ:St}{H:Hp}{s:Shared}{A:Around}{E:Value->Shared->Prop}{Q:Value->Shared->Prop}{c:Value}{b:Bool}
inductive TyOf(K:Frag)(H:Hp):V->Value->Prop where
 |non:TyOf K H .non (.type "NoneType")
 |bl (x:Bool):TyOf K H (.bl x) (.type "bool")
 |int (i:Int):TyOf K H (.int i) (.type "int")
 |str (x:Str):TyOf K H (.str x) (.type "str")
 |flt (x:UInt64):TyOf K H (.flt x) (.type "float")
 |lst {a:Addr} {xs:List V} (e:H a=some (.lst xs)):TyOf K H (.ref a) (.type "list")
 |frz {a:Addr} {o:Obj} {xs:List V} (e:H a=some (.frz o (.lst xs))):TyOf K H (.ref a) (.type "list")
 |tup {a:Addr} {xs:List V} (e:H a=some (.tup xs)):TyOf K H (.ref a) (.type "tuple")
 |dK {a:Addr} {kvs:List (Key×V)} (e:H a=some (.dK kvs)):TyOf K H (.ref a) (.type "dict")
 |dT {a:Addr} {kvs:List (List Key×V)} (e:H a=some (.dT kvs)):TyOf K H (.ref a) (.type "dict")
 |ins {a C dx:Addr} {fs:List (Str×V)} (e:H a=some (.ins C dx fs)) (cl:Cls K C) (ha:findIn K (.ref C) "__class__" = some (some (.builtin "object.__class__")))
   (hn:specialIn K (.builtin "object.__class__") "__get__" = some (some (.builtin "getset_descriptor.__get__"))) (htk:takesIn K (.builtin "object.__class__")=some true)
   (hm:mroIn K C (.type "object")=some true):TyOf K H (.ref a) (.ref C)
theorem Zy{x:V}{u t:Value}(I:Inv X pins σ H s)(rx:RelV x u)(ty:TyOf X.K H x t)(e:kitOne X.K t c=some b)(h:∀tk,Q (.bool b) {s with toks:=tk}):
  wpAny (model X.prog X.w) A (call (.builtin "isinstance") [u,c]) Q E s:=by
 cases ty with
 |non=>cases (show u=Value.none from rx);exact UQ kitx_none I.kIn True.intro e (λz=>nomatch z) h
 |bl y=>cases (show u=Value.bool y from rx);exact UQ kitx_bool I.kIn True.intro e (λz=>nomatch z) h
 |int i=>obtain⟨t,q⟩:=(show ∃t,u=Value.int i t from rx);cases q;exact UQ kitx_int I.kIn True.intro e (λz=>nomatch z) h
 |str y=>obtain⟨t,q⟩:=(show ∃t,u=Value.str y t from rx);cases q;exact UQ kitx_str I.kIn True.intro e (λz=>nomatch z) h
 |flt y=>obtain⟨t,q⟩:=(show ∃t,u=Value.float y t from rx);cases q;exact UQ kitx_float I.kIn True.intro e (λz=>nomatch z) h
 |@lst a xs ea =>
  cases (show u=Value.ref a from rx)
  obtain⟨_,_,n,_,h1⟩:=(show ObjOk X.prog X.w H s.heap a (.lst xs) from I.hok a _ ea)
  exact UQ We I.kIn ⟨_,h1,rfl⟩ e (λz=>nomatch z) h
 |@frz a ob xs ea =>
  cases (show u=Value.ref a from rx)
  obtain⟨_,_,_,n,_,h1⟩:=(show ObjOk X.prog X.w H s.heap a (.frz ob (.lst xs)) from I.hok a _ ea)
  exact UQ We I.kIn ⟨_,h1,rfl⟩ e (λz=>nomatch z) h
 |@tup a xs ea =>
  cases (show u=Value.ref a from rx)
  obtain⟨_,_,_,p⟩:=(show ObjOk X.prog X.w H s.heap a (.tup xs) from I.hok a _ ea)
  obtain⟨o,h1,h2,_⟩:=p
  exact UQ kitx_tuple I.kIn ⟨o,h1,h2⟩ e (λz=>nomatch z) h
 |@dK a kvs ea =>
  cases (show u=Value.ref a from rx)
  obtain⟨_,_,vs,_,p⟩:=(show ObjOk X.prog X.w H s.heap a (.dK kvs) from I.hok a _ ea)
  obtain⟨o,es,ep,h1,h2,_⟩:=p
  exact UQ kitx_dict I.kIn ⟨o,h1,h2.1⟩ e (λz=>nomatch z) h
 |@dT a kvs ea =>
  cases (show u=Value.ref a from rx)
  obtain⟨_,_,xs,_,o,es,ep,h1,h2,_⟩:=(show ObjOk X.prog X.w H s.heap a (.dT kvs) from I.hok a _ ea)
  exact UQ kitx_dict I.kIn ⟨o,h1,h2.1⟩ e (λz=>nomatch z) h
 |@ins a C dx fs ea cl ha hn htk hm =>
  cases (show u=Value.ref a from rx)
  obtain⟨mA,O,_⟩:=QbY I.hok ea
  obtain⟨od,J,_⟩:=O.look
  exact UQ (kitx_own (cl.get _) cl.hd ha hn htk hm) I.kIn J e (λz=>nomatch z) h
end
end
section
structure Room(k:Nat)(A:Around):Prop where
 hd:A.handled=none
 dp:A.depth+3*k+5<recursionLimit
 un:A.units+16*k+200<cLine
theorem Room.mono{j k:Nat}{A:Around}(r:Room k A)(h:j<=k):Room j A:=⟨r.hd,by have:=r.dp;omega,by have:=r.un;omega⟩
theorem Room.deeper{k:Nat}{A:Around}(r:Room (k+1) A)(env:Env):Room k (A.deeper env) :=
 ⟨r.hd,by have:=r.dp;show A.depth+1+3*k+5<_;omega,by have:=r.un;show A.units+3+16*k+200<_;omega⟩
theorem Room.in1{k:Nat}{A:Around}(r:Room (k+1) A):Room k A.in1 :=
 ⟨r.hd,by have:=r.dp;show A.depth+3*k+5<_;omega,by have:=r.un;show A.units+1+16*k+200<_;omega⟩
theorem Qdf{A:Around}{C:Addr}{us:List Value}{kw:List (Str×Value)}:(A.under (.builtin "type.__call__" ⟨.ref C::us,kw⟩)).depth=A.depth+1:=by
 first|rfl|simp[Around.under,Code.weight,Code.isCreation,Code.isGuard,Code.isCaller,Code.frames,Code.isFrame,guardIds]
theorem Qdg{A:Around}{C:Addr}{us:List Value}{kw:List (Str×Value)}:(A.under (.builtin "type.__call__" ⟨.ref C::us,kw⟩)).units=A.units+1:=by
 first|rfl|simp[Around.under,Code.cUnits,Code.frames,Code.isFrame]
theorem Room.make{k:Nat}{A:Around}(r:Room (k+1) A)(C:Addr)(us:List Value)(kw:List (Str×Value)):Room k (A.under (.builtin "type.__call__" ⟨.ref C::us,kw⟩)) :=
 ⟨r.hd,by have:=r.dp;rw[Qdf];omega,by have:=r.un;rw[Qdg];omega⟩
theorem Room.depth{k:Nat}{A:Around}(r:Room k A):A.depth<recursionLimit:=by have:=r.dp;omega
theorem Room.units{k:Nat}{A:Around}(r:Room k A):A.units+64<cLine:=by have:=r.un;omega
noncomputable def tNil:TA:=λ_ H Q=>Q [] H
noncomputable def Qfw(ta:TE)(tr:TA):TA:=λσ H Q=>ta σ H λx H1=>tr σ H1 λxs H2=>Q (x::xs) H2
section
variable{X:Cx}{e:Expr}{es:List Expr}{te:TE}{t:TA}{pos:Pos}
theorem YN:PA X [] tNil:=λ_ _ _ _ H Q I h=>Calls.spliced_nil ⟨[],H,I,.nil,h⟩
theorem Q6(ha:PE X e te)(hr:PA X es t)(hs:starEach (e::es) X.env=(false,eval e X.env)::starEach es X.env:=by rfl):PA X (e::es) (Qfw te t):=by
 intro pos pins s σ H Q I h
 rw[hs]
 show wpAny _ _ (spliced ((false,eval e X.env)::backTo pos (starEach es X.env))) _ _ s
 refine Calls.spliced_cons (thn (ha pins s σ H _ I h) λu s1 ⟨x,H1,I1,r1,q1⟩=>?_)
 exact thn (hr pos pins s1 σ H1 _ I1 q1) λus s2 ⟨xs,H2,I2,r2,q2⟩=>⟨x::xs,H2,I2,.cons r1 r2,q2⟩
noncomputable def tTup(t:TA):TE:=λσ H Q=>t σ H λxs H1=>xs.length<=sizeLine/\∀p,H1 p=none->Q (.ref p) (upd H1 p (.tup xs))
noncomputable def tLst(t:TA):TE:=λσ H Q=>t σ H λxs H1=>xs.length<=sizeLine/\∀p,H1 p=none->Q (.ref p) (upd H1 p (.lst xs))
theorem Qgp{x1}(h:PA X es t):PE X (.Tuple es x1 pos) (tTup t):=by
 intro pins s σ H Q I hq
 refine wpAny_Tuple_spliced (thn (h pos pins s σ H _ I hq) λus s1 ⟨xs,H1,I1,r,z,q⟩=>⟨by rw[<-r.length];exact z,?_⟩)
 have hf:H1 s1.heap.objs.size=none:=I1.hok.fresh (Ul _)
 refine⟨.ref s1.heap.objs.size,upd H1 s1.heap.objs.size (.tup xs),I1.laid (t':=s1.toks) (λb u e=>Ub _ e) (Ul _) ?_,rfl,q _ hf⟩
 exact⟨z,us,r,⟨_,Ur _ rfl,rfl,rfl,_,rfl⟩⟩
theorem Qij(h:PA X es t):PE X (.List es pos) (tLst t):=by
 intro pins s σ H Q I hq
 refine wpAny_List_spliced (thn (h pos pins s σ H _ I hq) λus s1 ⟨xs,H1,I1,r,z,q⟩=>⟨by rw[<-r.length];exact z,?_⟩)
 have hf:H1 s1.heap.objs.size=none:=I1.hok.fresh (Ul _)
 refine⟨.ref s1.heap.objs.size,upd H1 s1.heap.objs.size (.lst xs),I1.laid (t':=s1.toks) (λb u e=>Ub _ e) (Ul _) ?_,rfl,q _ hf⟩
 exact⟨z,us,0,r,Ur _ rfl⟩
end
noncomputable abbrev Sp:=List V->Hp->VK->XK->Prop
noncomputable abbrev CXT:=List Env->Hp->Shared->XK->Value->Shared->Prop
structure Env0(P:Program)(w:World)(K:Frag)(mg:Str->Option Value)(base:Heap)(A:Around)(outer:List Env)(s:Shared)(H:Hp):Prop where
 frames:A.frames=some outer
 mod:Mod K mg base
 bs:∀b o,base.get? b=some o->s.heap.get? b=some o/\H b=none
 bsz:base.objs.size<=s.heap.objs.size
 funs:s.heap.FunFrames base outer
 frf:∀b∈frs outer,H b=none
 hok:HOk P w H s.heap
 bare:AllBare s.gens
noncomputable def CE(outer:List Env)(P:Program)(w:World)(H:Hp)(s:Shared)(Q:VK)(u:Value)(s':Shared):Prop :=
 ∃v H',s'.os=s.os/\AllBare s'.gens/\Un (frs outer) [] H H' s.heap s'.heap/\HOk P w H' s'.heap/\RelV v u/\Q v H'
noncomputable def CR(CX:CXT)(outer:List Env)(P:Program)(w:World)(H:Hp)(s:Shared)(Q:VK)(E:XK)(r:Result)(s':Shared):Prop :=
 match r with
 |.ok (.ret u)=>CE outer P w H s Q u s'
 |.ok _=>False
 |.error e=>CX outer H s E e s'
structure FnOk(P:Program)(w:World)(K:Frag)(mg:Str->Option Value)(base:Heap)(CX:CXT)(k:Nat)(f:Addr)(fd:FuncData)(ps:List Str)(sp:Sp):Prop where
 len:∀vs H Q E,sp vs H Q E->vs.length=ps.length
 run:∀(A:Around)(outer:List Env)(s:Shared)(H:Hp)(args:Args)(us:List Value)(vs:List V)(Q:VK)(E:XK),Room k A->Env0 P w K mg base A outer s H->BindsTo s fd args (ps.zip us)->Vals vs us->sp vs H Q E ->
  codeAny (model P w) A (.call (.ref f) args) (CR CX outer P w H s Q E) s
theorem FnOk.mono{P:Program}{w:World}{K:Frag}{mg:Str->Option Value}{base:Heap}{CX:CXT}{j k:Nat}{f:Addr}{fd:FuncData}{ps:List Str}{sp:Sp}(F:FnOk P w K mg base CX j f fd ps sp)(h:j<=k):
  FnOk P w K mg base CX k f fd ps sp:=⟨F.len,λA outer s H args us vs Q E hr=>F.run A outer s H args us vs Q E (hr.mono h)⟩
theorem Env0.make{P:Program}{w:World}{K:Frag}{mg:Str->Option Value}{base:Heap}{A:Around}{outer:List Env}{s:Shared}{H:Hp}(e:Env0 P w K mg base A outer s H)(C:Addr)(us:List Value)(kw:List (Str×Value)):
  Env0 P w K mg base (A.under (.builtin "type.__call__" ⟨.ref C::us,kw⟩)) outer s H:=⟨by first|exact e.frames|(simpa[Around.under,Code.envs,Code.isFrame,pushEnvs]using e.frames),e.mod,e.bs,e.bsz,e.funs,e.frf,e.hok,e.bare⟩
theorem Env0.in1{P:Program}{w:World}{K:Frag}{mg:Str->Option Value}{base:Heap}{A:Around}{outer:List Env}{s:Shared}{H:Hp}(e:Env0 P w K mg base A outer s H):
  Env0 P w K mg base A.in1 outer s H:=⟨e.frames,e.mod,e.bs,e.bsz,e.funs,e.frf,e.hok,e.bare⟩
section
variable{X:Cx}{pins:List (Addr×Obj)}{σ:St}{H:Hp}{s s':Shared}
theorem Inv.env0(I:Inv X pins σ H s):Env0 X.prog X.w X.K X.mg X.base X.A X.stack s H :=
 ⟨I.ok.frames,I.ok.mod,I.bs,Uo I.ok.bsz I.sz,I.stack,I.stkFree,I.hok,I.bare⟩
theorem Inv.after{Q:VK}{u:Value}(I:Inv X pins σ H s)(h:CE X.stack X.prog X.w H s Q u s'):EP X pins σ Q u s':=by
 obtain⟨v,H',os,bare,un,hok,r,q⟩:=h
 obtain⟨hh,g,d,t,os'⟩:=s'
 obtain rfl:os'=s.os:=os
 exact⟨v,H',I.call (h':=hh) (g':=g) (d':=d) (t':=t) (ch:=[]) un hok bare (λb z=>absurd z (by simp)),r,q⟩
end
noncomputable def Binds(K:Frag)(fd:FuncData)(ps:List Str)(ds:List Value):Prop :=
 ∀(s:Shared)(us:List Value),K.In s.heap->(us++ds).length=ps.length->BindsTo s fd ⟨us,[]⟩ (ps.zip (us++ds))
theorem Binds.all{K:Frag}{fd:FuncData}{ps:List Str}(h:∀us:List Value,us.length=ps.length->bindArgs fd ⟨us,[]⟩=pure (ps.zip us)):Binds K fd ps []:=λs us _ hl=>by
 rw[U6]at hl ⊢
 exact .of_eq (h us hl)
section
variable{X:Cx}{CX:CXT}{k:Nat}{f C:Addr}{fd:FuncData}{ps:List Str}{sp:Sp}{dvs:List V}{ds:List Value}{E:XK}{x m:Str}{p pos apos:Pos}{e o:Expr}{es:List Expr}{ta:TE}{t:TA}
structure Mk(K:Frag)(C f:Addr):Prop where
 makes:makesIn K C=true
 init:findIn K (.ref C) "__init__" = some (some (.ref f))
 fn:isFn K (.ref f)=true
 kp:keepIn K (.ref C)=true
end
section
variable{X:Cx}{CX:CXT}{k:Nat}{f C:Addr}{fd:FuncData}{ps ks:List Str}{sp:Sp}{E:XK}{x m:Str}{p pos apos kpos:Pos}{e o:Expr}{es:List Expr}{kws:List Keyword}{te ta:TE}{t tk:TA}{nm:Option Str}
variable{g:List Value->List Value->List Value}{gV:List V->List V->List V}
end
structure FnScope(N P:List Str)(sc:Scope):Prop where
 kind:sc.kind=.function
 co:sc.isCoroutine=false
 gen:sc.isGenerator=false
 nd:N.Nodup
 pre:N.take P.length=P
 par:∀x∈P,sc.names.lookup x=some .local\/sc.names.lookup x=some .cell
 nofree:∀y∈sc.names,y.2≠.free
theorem Qbh{kindOf:Str->Option NameKind}{x:Str}:∀{binds:List (Str×Value)}{m:Str->Option Value},(∀v,(x,v)∉binds)->bindL kindOf binds m x=m x
 |[],_,_=>rfl
 | (n,v)::r,m,h=>by
  unfold bindL
  rw[Qbh λw hw=>h w (Uj _ hw)]
  split
  ·have:x≠n:=by rintro rfl;exact h v Up
   simp[this]
  ·rfl
theorem Qbi{kindOf:Str->Option NameKind}{x:Str}:∀{binds:List (Str×Value)}{m:Str->Option Value},(∀v,(x,v)∉binds)->bindC kindOf binds m x=m x
 |[],_,_=>rfl
 | (n,v)::r,m,h=>by
  unfold bindC
  rw[Qbi λw hw=>h w (Uj _ hw)]
  split
  ·rfl
  ·have:x≠n:=by rintro rfl;exact h v Up
   simp[this]
theorem Qbj{kindOf:Str->Option NameKind}{x:Str}{v:Value}:∀{P:List Str}{vs:List Value}{i:Nat}{m:Str->Option Value},P.Nodup->P[i]?=some x->vs[i]?=some v->kindOf x=some .local ->
  bindL kindOf (P.zip vs) m x=some v
 |[],_,_,_,_,h,_,_=>by simp at h
 |_::_,[],_,_,_,_,h,_=>by simp at h
 |p::P,w::vs,0,m,nd,h1,h2,hk=>by
  simp at h1 h2;subst h1;subst h2
  show bindL kindOf ((p,w)::P.zip vs) m p=_
  unfold bindL
  rw[Qbh λv hv=>(RN.mp nd).1 (Wy hv).1,Uf hk]
  simp
 |p::P,w::vs,i+1,m,nd,h1,h2,hk=>by
  show bindL kindOf ((p,w)::P.zip vs) m x=_
  unfold bindL
  exact Qbj (i:=i) (RN.mp nd).2 (by simpa using h1) (by simpa using h2) hk
theorem Qbk{kindOf:Str->Option NameKind}{x:Str}{v:Value}:∀{P:List Str}{vs:List Value}{i:Nat}{m:Str->Option Value},P.Nodup->P[i]?=some x->vs[i]?=some v->kindOf x≠some .local ->
  bindC kindOf (P.zip vs) m x=some v
 |[],_,_,_,_,h,_,_=>by simp at h
 |_::_,[],_,_,_,_,h,_=>by simp at h
 |p::P,w::vs,0,m,nd,h1,h2,hk=>by
  simp at h1 h2;subst h1;subst h2
  show bindC kindOf ((p,w)::P.zip vs) m p=_
  unfold bindC
  rw[Qbi λv hv=>(RN.mp nd).1 (Wy hv).1,Uh hk]
  simp
 |p::P,w::vs,i+1,m,nd,h1,h2,hk=>by
  show bindC kindOf ((p,w)::P.zip vs) m x=_
  unfold bindC
  exact Qbk (i:=i) (RN.mp nd).2 (by simpa using h1) (by simpa using h2) hk
noncomputable def start(N:List Str)(vs:List V):St:=vs.map some++List.replicate (N.length-vs.length) none
noncomputable def cxOf(CX:CXT)(P:Program)(w:World)(K:Frag)(mg:Str->Option Value)(base:Heap)(N:List Str)(qual:Str)(scope:Scope)(f:Addr)(cd:Value)(A:Around)(outer:List Env)(s:Shared)(H:Hp)(E:XK):Cx where
 prog:=P
 w:=w
 K:=K
 mg:=mg
 base:=base
 A:=A.deeper (envOfC qual scope s.heap.objs.size f cd)
 N:=N
 s₀:=s
 H₀:=H
 env:=envOfC qual scope s.heap.objs.size f cd
 outer:=outer
 stack:=envOfC qual scope s.heap.objs.size f cd::outer
 ex:=[]
 calm:=true
 fn:=λ_=>true
 pn:=[]
 xe:=λe s'=>wpAny (model P w) (A.deeper (envOfC qual scope s.heap.objs.size f cd)) (leaving (envOfC qual scope s.heap.objs.size f cd) e) (λ_ s''=>CX outer H s E e s'') (λe' s''=>CX outer H s E e' s'') s'
theorem Qcx{sc:Scope}{n:Nat}{x:Str}(h:sc.names.lookup x=some .cell):∃c,(cellsFrom n sc.names []).lookup x=some c:=by
 have q:=Wt sc.names n [] (.inl h)
 exact Te.mp q
theorem QdY{CX:CXT}{P:Program}{w:World}{K:Frag}{mg:Str->Option Value}{base:Heap}{N ps:List Str}{qual:Str}{scope:Scope}{f:Addr}{cd:Value}{A:Around}{outer:List Env}{s s1:Shared}{H:Hp}{E:XK}{us:List Value}{vs:List V}(S:FnScope N ps scope)(hd:A.handled=none)(e0:Env0 P w K mg base A outer s H)(hl:vs.length=ps.length)(r:Vals vs us)(x:InCallC s s.heap.objs.size (bindL (envOfC qual scope s.heap.objs.size f cd).kindOf (ps.zip us) λ_=>none) (cellsFrom (s.heap.objs.size+1) scope.names []) (bindC (envOfC qual scope s.heap.objs.size f cd).kindOf (ps.zip us) λ_=>none) s1):
  Inv (cxOf CX P w K mg base N qual scope f cd A outer s H E) [] (start N vs) H s1:=by
 have hpl:ps.length<=N.length:=by have:=TU List.length S.pre;rw[U3]at this;omega
 obtain⟨h1,tk,rfl,hk⟩:=x.done
 have noA:∀b:Addr,b∉(cxOf CX P w K mg base N qual scope f cd A outer s H E).ex:=λb z=>absurd (show b∈([]:List Addr) from z) (by simp)
 refine⟨⟨e0.mod,S.kind,rfl,rfl,Ul _,λy z c h1 h2=>?_,λy hy=>?_,λy c _ h=>?_,λ_=>hd,Around.frames_deeper e0.frames,.inr ⟨rfl,rfl⟩,λb z=>absurd z (noA b),e0.bs,e0.bsz,λb _ _=>noA b,λb z=>absurd z (noA b),e0.funs,e0.frf⟩,
  rfl,e0.bare,Un.kept hk,⟨_,x.toInCall.ns,λi y v h1 h2 h3=>?_⟩,λy c h=>⟨_,x.cell y c h⟩,e0.hok.fresh (Ul _),λy c h=>?_,λp hp=>absurd (show p∈([]:List (Addr×Obj)) from hp) (by simp),e0.hok.kept hk,?_⟩
 ·exact name_of_addr x.apart (Tm h1) (Tm h2)
 ·have hy:scope.names.lookup y=some .cell\/scope.names.lookup y=some .free:=hy
  rcases hy with hy|hy
  ·exact Qcx hy
  ·exact absurd rfl (S.nofree _ (Tm hy))
 ·exact TV (x.above y c (Tm h))
 ·have hi:i<vs.length:=by
   unfold start at h2
   by_cases hi:i<vs.length
   ·exact hi
   ·rw[UH (by simpa using hi)]at h2
    rw[TJ]at h2
    split at h2 <;> cases h2
  have ha:vs[i]?=some v:=by
   unfold start at h2
   rw[UE (by simpa using hi),UA]at h2
   cases e:vs[i]? with
   |none=>rw[e]at h2;cases h2
   |some a=>rw[e]at h2;cases h2;rfl
  obtain⟨u,hu,rv⟩:=r.get ha
  have hp:ps[i]?=some y:=by
   rw[<-S.pre,Wj (by omega)];exact h1
  have ndP:ps.Nodup:=by rw[<-S.pre];exact S.nd.sublist (List.take_sublist _ _)
  refine⟨u,rv,?_⟩
  rcases S.par y (Tz hp) with k|k
  ·exact .inl ⟨k,Qbj ndP hp hu k⟩
  ·obtain⟨c,e⟩:=Qcx (n:=s.heap.objs.size+1) k
   refine .inr ⟨.inl k,c,e,?_⟩
   have q:=x.cell y c e
   rw[Qbk ndP hp hu (by show scope.names.lookup y≠_;rw[k];decide)]at q
   exact q
 ·exact e0.hok.fresh (TV (x.above y c (Tm h)))
 ·unfold start
  show _=N.length
  rw[UD,Uc,U4]
  omega
theorem QgX{CX:CXT}{P:Program}{w:World}{K:Frag}{mg:Str->Option Value}{base:Heap}{k:Nat}{f:Addr}{name qual:Str}{params:Arguments}{body:List Stmt}{scope:Scope}{dV kV doc pm cdv ct oc:Value}{an od:Option Addr}{osl:Array (Option Value)}{N ps:List Str}{sp:Sp}(lk:K.lookup f=some ⟨oc,od,.func (fnOf name qual params body scope dV kV doc pm an cdv ct),osl⟩)(hcd:codeIn K cdv qual=true)(S:FnScope N ps scope)(len:∀vs H Q E,sp vs H Q E->vs.length=ps.length)(hbody:∀(A:Around) (outer:List Env) (s:Shared) (H:Hp) (vs:List V) (Q:VK) (E:XK),Room k (A.deeper (envOfC qual scope s.heap.objs.size f cdv))->sp vs H Q E ->
   ∃t,PSs (cxOf CX P w K mg base N qual scope f cdv A outer s H E) body t/\t {nx:=λ_ H'=>Q .non H',rt:=Q} (start N vs) H):
  FnOk P w K mg base CX (k+1) f (fnOf name qual params body scope dV kV doc pm an cdv ct) ps sp:=by
 refine⟨len,λA outer s H args us vs Q E hr e0 hb r hsp=>?_⟩
 have hl:=len _ _ _ _ hsp
 have KX:K.In s.heap:=e0.mod.kin.keeps λb o e=>(e0.bs b o e).1
 have lim:s.heap.NoLimit:=e0.mod.nolimit.keeps λb o e=>(e0.bs b o e).1
 have hkind:∀y∈ps.zip us,scope.names.lookup y.1=some .local\/(scope.names.lookup y.1=some .cell/\((cellsFrom (s.heap.objs.size+1) scope.names []).lookup y.1).isSome=true):=λ⟨n,v⟩ hy=>by
  rcases S.par n (Wy hy).1 with q|q
  ·exact .inl q
  ·exact .inr ⟨q,Wt _ _ _ (.inl q)⟩
 refine codeAny_call_function hr.depth (KX _ _ lk) rfl S.co S.gen rfl (codeRec_of KX hcd) (hb _ _ _ _ ?_)
 refine wpAny_newFunctionEnv_cells S.kind hkind λenv he s1 x=>?_
 subst he
 refine⟨lim.keeps x.toInCall.keep,codeAny_func ?_⟩
 obtain⟨t,ht,hq⟩:=hbody A outer s H vs Q E (hr.deeper _) hsp
 have I:Inv (cxOf CX P w K mg base N qual scope f cdv A outer s H E) [] (start N vs) H s1:=QdY S hr.hd e0 hl r x
 refine UM (ht [] s1 (start N vs) H _ I hq) (λfl s' hs=>?_) λe s' hs=>hs
 have fin:∀{σ':St}{H':Hp}{v:V}{u:Value},Inv (cxOf CX P w K mg base N qual scope f cdv A outer s H E) [] σ' H' s'->RelV v u->Q v H'->CE outer P w H s Q u s' :=
  λ{σ' H' v u} J rv q=>⟨v,H',J.os,J.bare,J.base,J.hok,rv,q⟩
 cases fl with
 |ret u =>
  obtain⟨v,σ',H',J,rv,q⟩:=hs
  exact fin J rv q
 |next =>
  obtain⟨σ',H',J,q⟩:=hs
  exact fin (v:=V.non) (u:=Value.none) J rfl q
 |brk =>
  obtain⟨_,_,_,q⟩:=hs
  exact False.elim q
 |cont =>
  obtain⟨_,_,_,q⟩:=hs
  exact False.elim q
end
section
section
variable{X:Cx}{x:Str}{p pos:Pos}{e:Expr}{es:List Expr}{t:TA}{id T:String}{r:List V->Hp->VK->Prop}
noncomputable def tCB(r:List V->Hp->VK->Prop)(t:TA):TE:=λσ H Q=>t σ H λvs H1=>r vs H1 Q
theorem Z4(hc:CallR X (.builtin id) r)(hg:Gl X x)(hm:X.mg x=none)(hv:bootBuiltins x=some (.builtin id))(ha:PA X (e::es) t)(hn:x ≠ "__name__":=by decide)(hdb:(x == ("__debug__" : Str))=false:=by decide)(he:starEach (e::es) X.env=(false,eval e X.env)::starEach es X.env:=by rfl)(hpl:(backTo pos (starEach es X.env)).any (·.1)=false:=by rfl):PE X (.Call (.Name x p) (e::es) [] pos) (tCB r t):=by
 intro pins s σ H Q I h
 refine Rl (Qao I hg hm hv ?_ hn hdb)
 exact PyProof.Rows.callWith_builtin1 (thn (ha pos pins s σ H _ I h) λus s1 ⟨vs,H1,I1,r1,q1⟩=>hc pins s1 σ H1 vs us Q I1 r1 q1) he hpl
theorem QdZ(hc:CallR X (.type T) r)(hg:Gl X x)(hm:X.mg x=none)(hv:bootBuiltins x=some (.type T))(ha:PA X (e::es) t)(hn:x ≠ "__name__":=by decide)(hdb:(x == ("__debug__" : Str))=false:=by decide)(he:starEach (e::es) X.env=(false,eval e X.env)::starEach es X.env:=by rfl)(hpl:(backTo pos (starEach es X.env)).any (·.1)=false:=by rfl):PE X (.Call (.Name x p) (e::es) [] pos) (tCB r t):=by
 intro pins s σ H Q I h
 refine Rl (Qao I hg hm hv ?_ hn hdb)
 exact To (thn (ha pos pins s σ H _ I h) λus s1 ⟨vs,H1,I1,r1,q1⟩=>hc pins s1 σ H1 vs us Q I1 r1 q1) he hpl
end
end
end L2
namespace HT
open PySem PyProof.Rows
section
open PySem.SeqAt
open PySem.AutoSeq1 (wpAny_loadPart')
open PySem.MeetsSeq PySem.MeetsSeq2 PySem.MeetsSeq3
end
section
variable{prog:Program}{w:World}{A:Around}{E:Value->Shared->Prop}{s:Shared}
theorem cat_tup{t b:Addr}{vs ws:List Value}{Q:Value->Shared->Prop}(ht:IsTup s.heap t vs.toArray)(hb:IsTup s.heap b ws.toArray)(hv:vs≠[])(h1:ws=[]->Q (.ref t) s)(h2:ws≠[]->Q (.ref s.heap.objs.size) {s with heap:=s.heap.push {cls:=.type "tuple",data:=.seq (vs++ws).toArray} })(hsz:vs.length+ws.length<=sizeLine):wpAny (model prog w) A (binaryOp .Add (.ref t) (.ref b)) Q E s:=by
 obtain⟨⟨cls,dd,data,sl⟩,ho,hc,n,hd⟩:=id ht
 obtain⟨⟨cls2,dd2,data2,sl2⟩,ho2,hc2,n2,hd2⟩:=id hb
 simp only at hc hd hc2 hd2
 subst hc hd hc2 hd2
 have e:vs.toArray++ws.toArray=(vs++ws).toArray:=by simp
 by_cases hw:ws=[]
 ·exact concat_meets ⟨_,ho,rfl⟩ ⟨_,ho2,rfl⟩ Wr seq_tuple_add Ru Ro (Rf _ _)
   (tuple_addW1 t b vs.toArray ws.toArray n n2 dd dd2 sl sl2 (by simpa using hv) (by simp[hw])) ⟨ho,ho2,h1 hw⟩
 ·refine concat_meets ⟨_,ho,rfl⟩ ⟨_,ho2,rfl⟩ Wr seq_tuple_add Ru Ro (Rf _ _)
   (tuple_addW2 t b vs.toArray ws.toArray n n2 dd dd2 sl sl2 (by simpa using hv) (by simpa using hw) (by rw[Us,Us];exact hsz)) ⟨ho,ho2,?_⟩
  rw[e]
  exact h2 hw
noncomputable def sIx(n d:Nat):Option Int->Nat
 |none=>d
 |some v=>if v<0 then (v+(n:Int)).toNat else min v.toNat n
end
end HT
namespace L2
open PySem PySem.Spec PyProof.Rows
section
noncomputable abbrev TO:=St->Hp->(Option Int->Hp->Prop)->Prop
noncomputable def PO(X:Cx)(e:Option Expr)(t:TO):Prop :=
 ∀(pins:List (Addr×Obj))(s:Shared)(σ:St)(H:Hp)(Q:Option Int->Hp->Prop),Inv X pins σ H s->t σ H Q ->
  wpAny (model X.prog X.w) X.A (evalPart e X.env) (λu s'=>∃o H',Inv X pins σ H' s'/\IsPart u o/\Q o H') X.xe s
noncomputable def QgY:TO:=λ_ H Q=>Q none H
noncomputable def Qjx(t:TE):TO:=λσ H Q=>t σ H λx H1=>∃i,x=.int i/\Q (some i) H1
section
variable{X:Cx}{e:Expr}{te:TE}{lo hi:Option Expr}{tl th:TO}{pos p2:Pos}
theorem QgZ:PO X none QgY:=by
 intro pins s σ H Q I h
 rw[evalPart_none]
 exact Uk ⟨none,H,I,.none,h⟩
theorem Qg0(h:PE X e te):PO X (some e) (Qjx te):=by
 intro pins s σ H Q I hw
 rw[evalPart_some]
 refine thn (h pins s σ H _ I hw) λu s1 ⟨x,H1,I1,r1,q1⟩=>?_
 obtain⟨i,rfl,q⟩:=q1
 obtain⟨t,rfl⟩:=r1
 exact⟨some i,H1,I1,.int i t,q⟩
noncomputable def SlR(X:Cx)(r:V->Option Int->Option Int->Hp->VK->Prop):Prop :=
 ∀(pins:List (Addr×Obj))(s:Shared)(σ:St)(H:Hp)(x:V)(v vl vu:Value)(lo hi:Option Int)(sl:Addr)(Q:VK),Inv X pins σ H s->RelV x v->s.heap.IsSliceOf sl vl vu .none->IsPart vl lo->IsPart vu hi->r x lo hi H Q ->
  ∃T id,typeLookup (.type T) "__getitem__" = pure (some (.builtin id))/\s.TypeIs v T/\wpAny (model X.prog X.w) X.A (getItem v (.ref sl)) (EP X pins σ Q) X.xe s
theorem SlR.or{r r':V->Option Int->Option Int->Hp->VK->Prop}(h:SlR X r)(h':SlR X r'):SlR X (λx lo hi H Q=>r x lo hi H Q\/r' x lo hi H Q):=by
 intro pins s σ H x v vl vu lo hi sl Q I rx hs pl pu q
 rcases q with q|q
 ·exact h pins s σ H x v vl vu lo hi sl Q I rx hs pl pu q
 ·exact h' pins s σ H x v vl vu lo hi sl Q I rx hs pl pu q
noncomputable def tSl(r:V->Option Int->Option Int->Hp->VK->Prop)(te:TE)(tl th:TO):TE:=λσ H Q=>te σ H λx H1=>tl σ H1 λl H2=>th σ H2 λu H3=>r x l u H3 Q
theorem Qfx{r:V->Option Int->Option Int->Hp->VK->Prop}(hr:SlR X r)(he:PE X e te)(hl:PO X lo tl)(hu:PO X hi th):PE X (.Subscript e (.Slice lo hi none p2) pos) (tSl r te tl th):=by
 intro pins s σ H Q I h
 refine Subscript_ (thn (he pins s σ H _ I h) λv s1 ⟨x,H1,I1,r1,q1⟩=>?_)
 refine wpAny_Slice (thn (hl pins s1 σ H1 _ I1 q1) λvl s2 ⟨l,H2,I2,pl,q2⟩=>thn (hu pins s2 σ H2 _ I2 q2) λvu s3 ⟨u,H3,I3,pu,q3⟩=>?_)
 rw[evalPart_none]
 refine Uk ?_
 have I4:Inv X pins σ H3 {s3 with heap:=s3.heap.push {cls:=.type "slice",data:=.fields #[vl,vu,.none]} }:=I3.kept (t':=s3.toks) λb ob q=>Ub _ q
 obtain⟨T,id,hT,ht,hg⟩:=hr pins {s3 with heap:=s3.heap.push {cls:=.type "slice",data:=.fields #[vl,vu,.none]} } σ H3 x v vl vu l u s3.heap.objs.size Q I4 r1 (Heap.IsSliceOf.new ..) pl pu q3
 show wpAny (model X.prog X.w) X.A (subscriptTail e (.Slice lo hi none p2) v (.ref s3.heap.objs.size)) (EP X pins σ Q) X.xe {s3 with heap:=s3.heap.push {cls:=.type "slice",data:=.fields #[vl,vu,.none]} }
 exact tail_any (ops:=[.ref s3.heap.objs.size,v]) ht hT hg (by with_unfolding_all rfl)
noncomputable def cutV(xs:List V)(lo hi:Option Int):List V:=(xs.drop (HT.sIx xs.length 0 lo)).take (HT.sIx xs.length xs.length hi-HT.sIx xs.length 0 lo)
theorem QbZ(xs:List V)(lo hi:Option Int):(cutV xs lo hi).length<=xs.length:=by
 unfold cutV
 rw[U3,Td]
 omega
noncomputable def Qik(K:Frag):R2:=λx y H Q=>∃a b xs ys,x=.ref a/\y=.ref b/\SqT K H a xs/\SqT K H b ys/\xs≠[]/\xs.length+ys.length<=sizeLine /\
 (ys=[]->Q (.ref a) H)/\(ys≠[]->∀p,H p=none->Q (.ref p) (upd H p (.tup (xs++ys))))
theorem Vals.nil_iff{xs:List V}{us:List Value}(r:Vals xs us):us=[]↔xs=[]:=by
 cases r with
 |nil=>simp
 |cons _ _=>simp
theorem Qg1:OpR X (binaryOp .Add) (Qik X.K):=by
 intro pins s σ H x y v u Q I rx ry h
 obtain⟨a,b,xs,ys,rfl,rfl,ha,hb,hx,hz,q1,q2⟩:=h
 cases rx
 cases ry
 obtain⟨its,r1,p1,_⟩:=I.tuple ha
 obtain⟨its2,r2,p2,_⟩:=I.tuple hb
 refine HT.cat_tup p1 p2 (λz=>hx (r1.nil_iff.mp z)) (λz=>⟨.ref a,H,I,rfl,q1 (r2.nil_iff.mp z)⟩) (λz=>?_) (by rw[<-r1.length,<-r2.length];exact hz)
 refine⟨.ref s.heap.objs.size,_,I.laid (t':=s.toks) (o:=.tup (xs++ys)) (λb ob q=>Ub _ q) (Ul _) ?_,rfl,q2 (λw=>z (r2.nil_iff.mpr w)) _ (I.hok.fresh (Ul _))⟩
 exact⟨by rw[UD];exact hz,_,r1.append r2,IsTupD.new _ _⟩
end
end
section
noncomputable def ixN(n:Nat)(i:Int):Option Nat:=if 0<=i then (if i<n then some i.toNat else none) else if -(n:Int)<=i then some (i+n).toNat else none
noncomputable def atI{α:Type}(xs:List α)(i:Int):Option α:=(ixN xs.length i).bind λj=>xs[j]?
theorem Qd0{n:Nat}{i:Int}{j:Nat}(h:ixN n i=some j):seqIndex? i n=some j/\j<n /\ -(n:Int)<=i/\i<n:=by
 unfold ixN at h
 by_cases h0:0<=i
 ·rw[Uf h0]at h
  by_cases h1:i<n
  ·rw[Uf h1]at h
   have e:i.toNat=j:=Option.some.inj h
   exact⟨by rw[seqIndex_of h0 h1,e],by omega,by omega,h1⟩
  ·rw[Uh h1]at h;cases h
 ·rw[Uh h0]at h
  by_cases h1 : -(n:Int)<=i
  ·rw[Uf h1]at h
   have e:(i+n).toNat=j:=Option.some.inj h
   exact⟨by rw[seqIndex_neg (by omega) h1,e],by omega,h1,by omega⟩
  ·rw[Uh h1]at h;cases h
theorem Qb0{α:Type}{xs:List α}{i:Int}{v:α}(h:atI xs i=some v):∃j,seqIndex? i xs.length=some j/\xs[j]?=some v/\j<xs.length /\ -(xs.length:Int)<=i/\i<xs.length:=by
 unfold atI at h
 cases e:ixN xs.length i with
 |none=>rw[e]at h;cases h
 |some j =>
  rw[e]at h
  obtain⟨h1,h2,h3,h4⟩:=Qd0 e
  exact⟨j,h1,h,h2,h3,h4⟩
def Qb1(b:Expr):Prop:=∀o i,subscripted b false o i=operate [o,i] (getItem o i)
noncomputable def IxR(X:Cx)(r:R2):Prop :=
 ∀(value slice:Expr)(pins:List (Addr×Obj))(s:Shared)(σ:St)(H:Hp)(x y:V)(v u:Value)(Q:VK),Inv X pins σ H s->RelV x v->RelV y u->r x y H Q ->
  subscripted slice false v u=operate [v,u] (getItem v u)->wpAny (model X.prog X.w) X.A (subscriptTail value slice v u) (EP X pins σ Q) X.xe s
noncomputable def MtR(X:Cx)(id:String)(r:V->List V->Hp->VK->Prop):Prop :=
 ∀(pins:List (Addr×Obj))(s:Shared)(σ:St)(H:Hp)(x:V)(xs:List V)(v:Value)(us:List Value)(Q:VK),Inv X pins σ H s->RelV x v->Vals xs us->r x xs H Q ->
  wpAny (model X.prog X.w) X.A (call (.builtin id) (v::us)) (EP X pins σ Q) X.xe s
section
variable{X:Cx}{a b:Expr}{ta tb:TE}{pos:Pos}
theorem IxR.or{r r':R2}(h:IxR X r)(h':IxR X r'):IxR X (λx y H Q=>r x y H Q\/r' x y H Q):=by
 intro value slice pins s σ H x y v u Q I rx ry q hs
 rcases q with q|q
 ·exact h value slice pins s σ H x y v u Q I rx ry q hs
 ·exact h' value slice pins s σ H x y v u Q I rx ry q hs
theorem MtR.or{id:String}{r r':V->List V->Hp->VK->Prop}(h:MtR X id r)(h':MtR X id r'):MtR X id (λx xs H Q=>r x xs H Q\/r' x xs H Q):=by
 intro pins s σ H x xs v us Q I rx rs q
 rcases q with q|q
 ·exact h pins s σ H x xs v us Q I rx rs q
 ·exact h' pins s σ H x xs v us Q I rx rs q
theorem Qjy{r:R2}(hr:IxR X r)(ha:PE X a ta)(hb:PE X b tb)(hs:Qb1 b):PE X (.Subscript a b pos) (tOp r ta tb):=by
 intro pins s σ H Q I h
 exact Subscript_ (binT ha hb I h λv u s2 x y H2 I2 rx ry q=>hr a b pins s2 σ H2 x y v u Q I2 rx ry q (hs _ _))
noncomputable def rIxL(K:Frag):R2:=λx y H Q=>∃p xs i v,x=.ref p/\y=.int i/\SqL K H p xs/\atI xs i=some v/\Q v H
noncomputable def rIxT(K:Frag):R2:=λx y H Q=>∃p xs i v,x=.ref p/\y=.int i/\SqT K H p xs/\atI xs i=some v/\Q v H
noncomputable def rIxS:R2:=λx y H Q=>∃z i c,x=.str z/\y=.int i/\z.length<=sizeLine/\atI z.cps.toList i=some c/\Q (.str ⟨#[c]⟩) H
theorem ix_list:IxR X (rIxL X.K):=by
 intro value slice pins s σ H x y v u Q I rx ry h hs
 obtain⟨p,xs,i,z,rfl,rfl,hq,he,q⟩:=h
 cases rx
 obtain⟨t,rfl⟩:=ry
 obtain⟨its,r,pl,hz⟩:=I.list hq
 obtain⟨j,h1,h2,h3,h4,h5⟩:=Qb0 he
 obtain⟨w,ew,rw'⟩:=r.get h2
 have hl:=r.length
 have hn:=Qap
 have fin:EP X pins σ Q w s:=⟨z,H,I,rw',q⟩
 by_cases h0:0<=i
 ·have hj:i.toNat=j:=by
   rw[seqIndex_of h0 h5]at h1
   exact Option.some.inj h1
  exact item_listR pl.isList h0 (by omega) (by rw[hj];simpa using ew) fin hs
 ·have hj:(i+(its.toArray.size:Int)).toNat=j:=by
   rw[seqIndex_neg (by omega) h4]at h1
   rw[Us,<-hl]
   exact Option.some.inj h1
  exact subscriptTail_builtinR (x:=w) pl.isList.typeIs slot_list_getitem.lookup
   (wpAny_getItem_list_neg (Q:=λr s'=>r=w/\EP X pins σ Q r s') pl.isList (by omega) (by rw[Us] <;> omega) (by omega) (by rw[hj];simpa using ew) ⟨rfl,fin⟩) hs
theorem ix_tup:IxR X (rIxT X.K):=by
 intro value slice pins s σ H x y v u Q I rx ry h hs
 obtain⟨p,xs,i,z,rfl,rfl,hq,he,q⟩:=h
 cases rx
 obtain⟨t,rfl⟩:=ry
 obtain⟨its,r,pl,hz⟩:=I.tuple hq
 obtain⟨j,h1,h2,h3,h4,h5⟩:=Qb0 he
 obtain⟨w,ew,rw'⟩:=r.get h2
 have hl:=r.length
 have hn:=Qap
 have fin:EP X pins σ Q w s:=⟨z,H,I,rw',q⟩
 exact subscriptTail_builtinR (x:=w) pl.typeIs slot_tuple_getitem.lookup
  (getItem_tuple (j:=j) (Q:=λr s'=>r=w/\EP X pins σ Q r s') pl (by omega) (by omega) (by rw[Us,<-hl];exact h1) (by simpa using ew) ⟨rfl,fin⟩) hs
theorem Qil:IxR X rIxS:=by
 intro value slice pins s σ H x y v u Q I rx ry h hs
 obtain⟨z,i,c,rfl,rfl,hz,he,q⟩:=h
 obtain⟨t,rfl⟩:=rx
 obtain⟨t',rfl⟩:=ry
 obtain⟨j,h1,h2,h3,h4,h5⟩:=Qb0 he
 have hl:z.cps.toList.length=z.length:=by simp[Str.length]
 rw[hl]at h1 h4 h5
 have hn:=Qap
 exact tail_any (Wc s z t) slot_str_getitem.lookup (getItem_str (c:=c) (by
  have e1:decide (i < -(2^63:Int))=false:=Uw (by omega)
  have e2:decide (i>=2^63)=false:=Uw (by omega)
  rw[e1,e2,Bool.or_false]) (by rw[h1];simpa using h2) ⟨.str ⟨#[c]⟩,H,I.tok _,⟨_,rfl⟩,q⟩) hs
noncomputable def rIx(K:Frag):R2:=λx y H Q=>rIxL K x y H Q\/rIxT K x y H Q\/rIxS x y H Q
theorem Qim:IxR X (rIx X.K):=ix_list.or (ix_tup.or Qil)
theorem Qdh(its:List Value)(n j:Nat)(u:Value):Obj.mapSeq (·.setIfInBounds j u) {cls:=.type "list",data:=.seq its.toArray n} = {cls:=.type "list",data:=.seq (its.set j u).toArray n}:=by
 simp[Obj.mapSeq]
theorem Inv.lst{pins:List (Addr×Obj)}{σ:St}{H:Hp}{s:Shared}{p:Addr}{xs:List V}(I:Inv X pins σ H s)(h:H p=some (.lst xs)):
  ∃(its:List Value)(n:Nat),Vals xs its/\s.heap.get? p=some {cls:=.type "list",data:=.seq its.toArray n}/\xs.length<=sizeLine:=by
 obtain⟨z,its,n,r,e⟩:=I.hok p _ h
 exact⟨its,n,r,e,z⟩
theorem Inv.lstUpd{pins:List (Addr×Obj)}{σ:St}{H:Hp}{s:Shared}{p:Addr}{xs ys:List V}{its its':List Value}{n n':Nat}{f:Obj->Obj}(I:Inv X pins σ H s)(h:H p=some (.lst xs))(ho:s.heap.get? p=some {cls:=.type "list",data:=.seq its.toArray n})(hf:f {cls:=.type "list",data:=.seq its.toArray n} = {cls:=.type "list",data:=.seq its'.toArray n'})(r:Vals ys its')(hz:ys.length<=sizeLine)(t:Nat):
  Inv X pins σ (upd H p (.lst ys)) {s with heap:=s.heap.update p f,toks:=t}:=by
 have e:(s.heap.update p f).get? p=some {cls:=.type "list",data:=.seq its'.toArray n'}:=by
  rw[TY f ho (by rw[hf] <;> rfl),hf]
 refine I.write (x:=p) (e:=p) (by rw[h];trivial) (.inl rfl) (λb u hb q=>(U1 _ _ (Ne.symm hb)).trans q) ⟨_,e⟩ ?_
 exact⟨hz,its',n',r,e⟩
noncomputable def Qjz:V->V->V->Hp->(Hp->Prop)->Prop:=λo i v H Q=>∃p xs k j,o=.ref p/\i=.int k/\H p=some (.lst xs)/\ixN xs.length k=some j/\Q (upd H p (.lst (xs.set j v)))
theorem Qfy:PSet X Qjz:=by
 intro pins s σ H o i v ov iv u Q I ro ri rv h
 obtain⟨p,xs,k,j,rfl,rfl,hp,hj,q⟩:=h
 cases ro
 obtain⟨t,rfl⟩:=ri
 obtain⟨its,n,r,ho,hz⟩:=I.lst hp
 obtain⟨h1,h2,h3,h4⟩:=Qd0 hj
 have hl:=r.length
 have hn:=Qap
 have I':Inv X pins σ (upd H p (.lst (xs.set j v))) {s with heap:=s.heap.update p (Obj.mapSeq (·.setIfInBounds j u))} :=
  I.lstUpd hp ho (Qdh its n j u) (r.set rv j) (by rw[UR];exact hz) s.toks
 by_cases h0:0<=k
 ·have hk:k.toNat=j:=by
   rw[seqIndex_of h0 h4]at h1
   exact Option.some.inj h1
  exact ki_setAt ho h0 (by omega) (by rw[Us,<-hl];exact h4) (by rw[hk];exact⟨_,I',q⟩)
 ·have hk:(k+(its.toArray.size:Int)).toNat=j:=by
   rw[seqIndex_neg (by omega) h3]at h1
   rw[Us,<-hl]
   exact Option.some.inj h1
  exact ki_setBack ho (by omega) (by rw[Us,<-hl];exact h3) (by omega) (by rw[hk];exact⟨_,I',q⟩)
theorem Qbl(lo hi:Option Int)(n:Nat):(sliceBounds lo hi none n).1=((HT.sIx n 0 lo:Nat):Int)/\(sliceBounds lo hi none n).2.1=((HT.sIx n n hi:Nat):Int)/\(sliceBounds lo hi none n).2.2=1:=by
 refine⟨?_,?_,rfl⟩
 ·cases lo with
  |none=>simp[sliceBounds,HT.sIx]
  |some i =>
   simp only[sliceBounds,HT.sIx,Option.getD_none,show(1:Int) > 0 by decide,Wd]
   by_cases h:i<0
   ·simp only[h,Wd] <;> omega
   ·simp only[h,WK] <;> omega
 ·cases hi with
  |none=>simp[sliceBounds,HT.sIx]
  |some i =>
   simp only[sliceBounds,HT.sIx,Option.getD_none,show(1:Int) > 0 by decide,Wd]
   by_cases h:i<0
   ·simp only[h,Wd] <;> omega
   ·simp only[h,WK] <;> omega
theorem QaC(its:List Value)(lo hi:Option Int):slicePick its.toArray lo hi none=((its.drop (HT.sIx its.length 0 lo)).take (HT.sIx its.length its.length hi-HT.sIx its.length 0 lo)).toArray:=by
 obtain⟨h1,h2,h3⟩:=Qbl lo hi its.toArray.size
 unfold slicePick
 rw[h1,h2,h3]
 simp only[sliceRange_one,pick_run,Us] <;> rfl
noncomputable def rSlL(K:Frag):V->Option Int->Option Int->Hp->VK->Prop:=λx lo hi H Q=>∃a xs,x=.ref a/\SqL K H a xs/\∀p,H p=none->Q (.ref p) (upd H p (.lst (cutV xs lo hi)))
theorem Qg2:SlR X (rSlL X.K):=by
 intro pins s σ H x v vl vu lo hi sl Q I rx hs pl pu h
 obtain⟨a,xs,rfl,hx,q⟩:=h
 cases rx
 obtain⟨its,r,ht,hz⟩:=I.list hx
 have hlen:=r.length
 refine⟨"list",_,slot_list_getitem.lookup,ht.isList.typeIs,?_⟩
 refine wpAny_getItem_list_slice ht.isList hs pl pu .none (by simp) ?_ (by rw[Us] <;> omega)
 rw[QaC,<-hlen]
 refine⟨.ref s.heap.objs.size,_,I.laid (t':=s.toks) (o:=.lst (cutV xs lo hi)) (λb ob q=>Ub _ q) (Ul _) ?_,rfl,q _ (I.hok.fresh (Ul _))⟩
 exact⟨Uo (QbZ xs lo hi) hz,_,0,(r.drop (HT.sIx xs.length 0 lo)).take (HT.sIx xs.length xs.length hi-HT.sIx xs.length 0 lo),Ur _ rfl⟩
noncomputable def Qal:V->Bool
 |.non=>true
 |.bl _=>true
 |.int _=>true
 |.str _=>true
 |_=>false
noncomputable def eqV:V->V->Bool
 |.non,.non=>true
 |.bl a,.bl b=>a == b
 |.bl a,.int b=>(if a then 1 else 0) == b
 |.int a,.bl b=>a == (if b then 1 else 0)
 |.int a,.int b=>a == b
 |.str a,.str b=>a == b
 |_,_=>false
theorem Qin{A:Around}{s:Shared}{y x:V}{u v:Value}(ry:RelV y u)(rx:RelV x v)(fy:Qal y=true)(fx:Qal x=true):SeqAt.EqAt A s u v (eqV y x):=by
 cases y with
 |non =>
  cases ry
  cases x with
  |non=>cases rx;exact SeqAt.EqAt.same _
  |bl b=>cases rx;exact SeqAt.EqAt.none_bool b
  |int b=>obtain⟨t,rfl⟩:=rx;exact SeqAt.EqAt.none_int b t
  |str b=>obtain⟨t,rfl⟩:=rx;exact SeqAt.EqAt.none_str b t
  |_=>exact absurd (show false=true from fx) Ud
 |bl a =>
  cases ry
  cases x with
  |non=>cases rx;exact SeqAt.EqAt.bool_none a
  |bl b=>cases rx;exact SeqAt.EqAt.bool_bool a b
  |int b=>obtain⟨t,rfl⟩:=rx;exact SeqAt.EqAt.bool_int a b t
  |str b=>obtain⟨t,rfl⟩:=rx;exact SeqAt.EqAt.bool_str a b t
  |_=>exact absurd (show false=true from fx) Ud
 |int a =>
  obtain⟨t',rfl⟩:=ry
  cases x with
  |non=>cases rx;exact SeqAt.EqAt.int_none a t'
  |bl b=>cases rx;exact SeqAt.EqAt.int_bool a t' b
  |int b=>obtain⟨t,rfl⟩:=rx;exact SeqAt.EqAt.int_int a t' b t
  |str b=>obtain⟨t,rfl⟩:=rx;exact SeqAt.EqAt.int_str a t' b t
  |_=>exact absurd (show false=true from fx) Ud
 |str a =>
  obtain⟨t',rfl⟩:=ry
  cases x with
  |non=>cases rx;exact SeqAt.EqAt.str_none a t'
  |bl b=>cases rx;exact SeqAt.EqAt.str_bool a t' b
  |int b=>obtain⟨t,rfl⟩:=rx;exact SeqAt.EqAt.str_int a t' b t
  |str b=>obtain⟨t,rfl⟩:=rx;exact SeqAt.EqAt.str_str a t' b t
  |_=>exact absurd (show false=true from fx) Ud
 |_=>exact absurd (show false=true from fy) Ud
noncomputable def eqU(x:V)(u:Value):Bool:=match u with
 |.none=>eqV .non x
 |.bool b=>eqV (.bl b) x
 |.int i _=>eqV (.int i) x
 |.str z _=>eqV (.str z) x
 |_=>false
theorem Qgq{x y:V}{u:Value}(r:RelV y u)(f:Qal y=true):eqU x u=eqV y x:=by
 cases y with
 |non=>cases r;rfl
 |bl b=>cases r;rfl
 |int i=>obtain⟨t,rfl⟩:=r;rfl
 |str z=>obtain⟨t,rfl⟩:=r;rfl
 |_=>exact absurd (show false=true from f) Ud
theorem Qb2{x:V}:∀{xs:List V}{us:List Value},Vals xs us->xs.all Qal=true->us.any (eqU x)=xs.any λy=>eqV y x
 |_,_,.nil,_=>rfl
 |y::xs,u::us,.cons r t,f=>by
  rw[Wm,UC]at f
  rw[TH,TH,Qgq r f.1,Qb2 t f.2]
theorem QaD{A:Around}{s:Shared}{x:V}{v:Value}(rx:RelV x v)(fx:Qal x=true):∀{xs:List V}{us:List Value},Vals xs us->xs.all Qal=true->∀u∈us,SeqAt.EqAt A s u v (eqU x u)
 |_,_,.nil,_=>λu hu=>by cases hu
 |y::xs,u::us,.cons r t,f=>λu' hu=>by
  rw[Wm,UC]at f
  rcases UG.mp hu with rfl|hu
  ·rw[Qgq r f.1];exact Qin r rx f.1 fx
  ·exact QaD rx fx t f.2 u' hu
noncomputable def inV(x:V)(xs:List V):Bool:=xs.any λy=>eqV y x
noncomputable def rIn(K:Frag)(neg:Bool):R2:=λx y H Q=>∃p xs,y=.ref p/\(SqL K H p xs\/SqT K H p xs)/\Qal x=true/\xs.all Qal=true/\Q (.bl (if neg then !inV x xs else inV x xs)) H
theorem Qd1:OpR X (compareOp .In) (rIn X.K false):=by
 intro pins s σ H x y v u Q I rx ry h
 obtain⟨p,xs,rfl,hq,fx,fs,q⟩:=h
 cases ry
 rcases hq with hq|hq
 ·obtain⟨its,r,pl,hz⟩:=I.list hq
  refine SeqAt.in_listAt (eqU x) pl.isList (λw hw=>QaD rx fx r fs w (by simpa using hw)) ⟨.bl _,H,I,rfl,?_⟩
  rw[show its.toArray.any (eqU x)=its.any (eqU x) by simp,Qb2 r fs]
  exact q
 ·obtain⟨its,r,pl,hz⟩:=I.tuple hq
  refine SeqAt.in_tupleAt (eqU x) pl (λw hw=>QaD rx fx r fs w (by simpa using hw)) ⟨.bl _,H,I,rfl,?_⟩
  rw[show its.toArray.any (eqU x)=its.any (eqU x) by simp,Qb2 r fs]
  exact q
theorem call_len_seq:CallR X (.builtin "len") (λxs H Q=>∃p ys,xs=[.ref p]/\(SqL X.K H p ys\/SqT X.K H p ys)/\Q (.int ys.length) H):=by
 intro pins s σ H xs us Q I r h
 obtain⟨p,ys,rfl,hq,q⟩:=h
 obtain⟨u,rfl,rx⟩:=QdU r
 cases rx
 have hn:=Qap
 rcases hq with hq|hq
 ·obtain⟨its,r',pl,hz⟩:=I.list hq
  have hlen:=r'.length
  exact Calls.call_len_list pl.isList (by simp only[Us] <;> omega) ⟨.int ys.length,H,I.tok _,⟨s.toks+1,by rw[Us,hlen]⟩,q⟩
 ·obtain⟨its,r',pl,hz⟩:=I.tuple hq
  have hlen:=r'.length
  exact len_tuple pl (by simp only[Us] <;> omega) ⟨.int ys.length,H,I.tok _,⟨s.toks+1,by rw[Us,hlen]⟩,q⟩
theorem Qbm:CallR X (.builtin "len") (λxs H Q=>∃z,xs=[.str z]/\z.length<=sizeLine/\Q (.int z.length) H):=by
 intro pins s σ H xs us Q I r h
 obtain⟨z,rfl,hz,q⟩:=h
 obtain⟨u,rfl,t,rfl⟩:=QdU r
 have hn:=Qap
 exact len_str (by omega) ⟨.int z.length,H,I.tok _,⟨_,rfl⟩,q⟩
theorem CallR.or{f:Value}{r r':List V->Hp->VK->Prop}(h:CallR X f r)(h':CallR X f r'):CallR X f (λxs H Q=>r xs H Q\/r' xs H Q):=by
 intro pins s σ H xs us Q I rs q
 rcases q with q|q
 ·exact h pins s σ H xs us Q I rs q
 ·exact h' pins s σ H xs us Q I rs q
theorem Qbn:CallR X (.type "list") (λxs H Q=>∃p ys,xs=[.ref p]/\(SqL X.K H p ys\/SqT X.K H p ys)/\∀l,H l=none->Q (.ref l) (upd H l (.lst ys))):=by
 intro pins s σ H xs us Q I r h
 obtain⟨p,ys,rfl,hq,q⟩:=h
 obtain⟨u,rfl,rx⟩:=QdU r
 cases rx
 have fin:∀(its:List Value),Vals ys its->ys.length<=sizeLine->∀(h':Heap)(c':Nat),(∀b o',s.heap.get? b=some o'->h'.get? b=some o') ->
   h'.get? s.heap.objs.size=some {cls:=.type "list",dict:=none,data:=.seq its.toArray c',slots:=#[]}->EP X pins σ Q (.ref s.heap.objs.size) {s with heap:=h'}:=λits r' hz h' c' kp e =>
  ⟨.ref s.heap.objs.size,_,I.laid (t':=s.toks) kp (Ul _) (show ObjOk X.prog X.w _ h' _ (.lst ys) from ⟨hz,its,c',r',e⟩),rfl,q _ (I.hok.fresh (Ul _))⟩
 rcases hq with hq|hq
 ·obtain⟨its,r',pl,hz⟩:=I.list hq
  have hlen:=r'.length
  obtain⟨o,ho,hc,n,hd⟩:=pl.isList
  exact call_list_seq p (.inl rfl) ho hc hd (λh' c' kp e=>fin its r' hz h' c' kp e) (by simp only[Us] <;> omega)
 ·obtain⟨its,r',pl,hz⟩:=I.tuple hq
  have hlen:=r'.length
  obtain⟨o,ho,hc,n,hd⟩:=pl
  exact call_list_seq p (.inr rfl) ho hc hd (λh' c' kp e=>fin its r' hz h' c' kp e) (by simp only[Us] <;> omega)
theorem QaE:CallR X (.type "tuple") (λxs H Q=>∃p ys,xs=[.ref p]/\((SqL X.K H p ys/\∀l,H l=none->Q (.ref l) (upd H l (.tup ys)))\/(SqT X.K H p ys/\Q (.ref p) H))):=by
 intro pins s σ H xs us Q I r h
 obtain⟨p,ys,rfl,h⟩:=h
 obtain⟨u,rfl,rx⟩:=QdU r
 cases rx
 rcases h with⟨hq,q⟩|⟨hq,q⟩
 ·obtain⟨its,r',pl,hz⟩:=I.list hq
  have hlen:=r'.length
  refine call_tuple_list pl.isList (λh' kp=>?_) (by simp only[Us] <;> omega)
  have I1:Inv X pins σ H {s with heap:=h'}:=I.kept (t':=s.toks) kp
  have I2:Inv X pins σ (upd H h'.objs.size (.tup ys)) {s with heap:=h'.push {cls:=.type "tuple",data:=.seq its.toArray} } :=
   I1.laid (t':=s.toks) (λb o e=>Ub _ e) (Ul _) (show ObjOk X.prog X.w _ _ _ (.tup ys) from ⟨hz,its,r',IsTupD.new _ _⟩)
  exact⟨.ref h'.objs.size,_,I2,rfl,q _ (I1.hok.fresh (Ul _))⟩
 ·obtain⟨its,r',pl,hz⟩:=I.tuple hq
  exact call_tuple_same pl ⟨.ref p,H,I,rfl,q⟩
def tyV(K:Frag)(T:String)(x:V)(H:Hp):Prop:=match x with
 |.str _=>T = "str"
 |.int _=>T = "int"
 |.ref p=>(T = "list" /\ ∃xs,SqL K H p xs)\/(T = "tuple" /\ ∃o,K.lookup p=some o/\o.cls=.type "tuple" /\ o.dict=none) \/
   (T = "dict" /\ ((∃kvs,H p=some (.dK kvs))\/∃kvs,H p=some (.dT kvs)))\/(T = "set" /\ ∃S n,H p=some (.set S n))
 |_=>False
theorem Qio{pins:List (Addr×Obj)}{σ:St}{H:Hp}{s:Shared}{T:String}{x:V}{v:Value}(I:Inv X pins σ H s)(r:RelV x v)(ty:tyV X.K T x H):
  s.TypeIs v T/\∀a,v=.ref a->∃ob,s.heap.get? a=some ob/\ob.dict=none:=by
 cases x with
 |str z =>
  obtain⟨t,rfl⟩:=r
  cases (show T = "str" from ty)
  exact⟨Wc s z t,λ_ e=>nomatch e⟩
 |int i =>
  obtain⟨t,rfl⟩:=r
  cases (show T = "int" from ty)
  exact⟨typeIs_int s i t,λ_ e=>nomatch e⟩
 |ref p =>
  cases r
  rcases ty with⟨rfl,xs,hq⟩|⟨rfl,o,hk,hc,hd⟩|⟨rfl,hk⟩|⟨rfl,S,n,hk⟩
  ·obtain⟨its,_,pl,_⟩:=I.list hq
   refine⟨pl.isList.typeIs,λa e=>?_⟩
   cases e
   obtain⟨o,n,e,c,hd,_⟩:=pl
   exact⟨o,e,hd⟩
  ·refine⟨⟨o,I.kIn p o hk,hc⟩,λa e=>?_⟩
   cases e
   exact⟨o,I.kIn _ o hk,hd⟩
  ·have z:∃o,s.heap.get? p=some o/\o.ExactDict:=by
    rcases hk with⟨kvs,hk⟩|⟨kvs,hk⟩
    ·obtain⟨_,_,_,_,o,_,_,e,ex,_⟩:=I.hok p _ hk
     exact⟨o,e,ex⟩
    ·obtain⟨_,_,_,_,o,_,_,e,ex,_⟩:=I.hok p _ hk
     exact⟨o,e,ex⟩
   obtain⟨o,e,ex⟩:=z
   refine⟨⟨o,e,ex.1⟩,λa e2=>?_⟩
   cases e2
   exact⟨o,e,ex.2.1⟩
  ·obtain⟨o,_,_,_,e,ex,_⟩:=I.hok p _ hk
   refine⟨⟨o,e,ex.1⟩,λa e2=>?_⟩
   cases e2
   exact⟨o,e,ex.2.1⟩
 |_=>exact False.elim ty
noncomputable def tBM(K:Frag)(T:String)(r:V->List V->Hp->VK->Prop)(to:TE)(t:TA):TE:=λσ H Q=>to σ H λx H1=>tyV K T x H1/\t σ H1 λxs H2=>r x xs H2 Q
variable{o e:Expr}{es:List Expr}{to:TE}{t:TA}{name:Str}{apos cpos:Pos}{T id:String}{r:V->List V->Hp->VK->Prop}
theorem Qg3(pa:PlainAttrs T)(slot:Slot T name id)(hty:typeOf (.builtin id)=pure (.type "method_descriptor"))(hm:MtR X id r)(ho:PE X o to)(ha:PA X (e::es) t)(hbase:attributeBase o name X.env (eval o X.env)=eval o X.env:=by rfl)(hfew:((backTo cpos (starEach (e::es) X.env)).all (λx=>!x.1) && (backToKw cpos (keywordEach [] X.env)).all (λx=>x.1.isSome)
   && decide ((e::es).length+([]:List Keyword).length+(if ([]:List Keyword).isEmpty then 0 else 1)<30))=true:=by rfl)(hline:(apos.endLine == cpos.line)=true:=by rfl)(hs:starEach (e::es) X.env=(false,eval e X.env)::starEach es X.env:=by rfl)(hplain:(backTo cpos (starEach es X.env)).any (·.1)=false:=by rfl):
  PE X (.Call (.Attribute o name apos) (e::es) [] cpos) (tBM X.K T r to t):=by
 intro pins s σ H Q I h
 refine wpAny_Call_method_late hbase hfew hline rfl (thn (ho pins s σ H _ I h) λv s1 ⟨x,H1,I1,r1,ty,q1⟩=>?_)
 obtain⟨h1,h2⟩:=Qio I1 r1 ty
 refine⟨T,id,pa,slot,hty,h1,h2,?_⟩
 have hA:=ha cpos pins s1 σ H1 _ I1 q1
 rw[hs]at hA ⊢
 refine Calls.callWith_builtin (by show(false || (backTo cpos (starEach es X.env)).any (·.1))=false;rw[hplain] <;> rfl) (T4 ?_)
 exact thn hA λus s2 ⟨vs,H2,I2,r2,q2⟩=>hm pins s2 σ H2 x vs v us Q I2 r1 r2 q2
end
end
section
noncomputable def MtM(X:Cx)(id:String)(r:V->List V->Hp->VK->Prop):Prop :=
 ∀(pins:List (Addr×Obj))(s:Shared)(σ:St)(H:Hp)(x:V)(xs:List V)(v:Value)(us:List Value)(Q:VK),Inv X pins σ H s->RelV x v->Vals xs us->r x xs H Q ->
  wpAny (model X.prog X.w) X.A (call (.builtin id) (v::us)) (EP X pins σ Q) X.xe s
theorem Vals.one:∀{x:V}{us:List Value},Vals [x] us->∃u,us=[u]/\RelV x u
 |_,_,.cons r .nil=>⟨_,rfl,r⟩
theorem Vals.two:∀{x y:V}{us:List Value},Vals [x,y] us->∃u v,us=[u,v]/\RelV x u/\RelV y v
 |_,_,_,.cons r (.cons q .nil)=>⟨_,_,rfl,r,q⟩
theorem Vals.zero:∀{us:List Value},Vals [] us->us=[]
 |_,.nil=>rfl
section
variable{X:Cx}{pins:List (Addr×Obj)}{σ:St}{H:Hp}{s:Shared}{l b:Addr}{xs ys zs:List V}
theorem Inv.lset{its its':List Value}{n:Nat}{f:Array Value->Array Value}{t':Nat}(I:Inv X pins σ H s)(hH:H l=some (.lst xs))(e:s.heap.get? l=some {cls:=.type "list",data:=.seq its.toArray n})(hf:f its.toArray=its'.toArray)(hv:Vals ys its')(hz:ys.length<=sizeLine):
  Inv X pins σ (upd H l (.lst ys)) {s with heap:=s.heap.update l (Obj.mapSeq f),toks:=t'}:=by
 have q:=PySem.IsL.update e f
 rw[hf]at q
 refine I.write (x:=l) (e:=l) (by rw[hH];exact trivial) (.inl rfl) (λb' u hb hu=>(U1 s.heap (Obj.mapSeq f) (Ne.symm hb)).trans hu) ⟨_,q⟩ ?_
 exact⟨hz,its',_,hv,q⟩
theorem Inv.lnew{its:List Value}{t':Nat}(I:Inv X pins σ H s)(hv:Vals ys its)(hz:ys.length<=sizeLine):
  Inv X pins σ (upd H s.heap.objs.size (.lst ys)) {s with heap:=s.heap.push {cls:=.type "list",data:=.seq its.toArray},toks:=t'} :=
 I.laid (λ_ _ q=>Ub _ q) (Ul _) ⟨hz,its,0,hv,Ur _ rfl⟩
theorem Inv.fresh(I:Inv X pins σ H s):H s.heap.objs.size=none:=I.hok.fresh (Ul _)
theorem Inv.lstM(I:Inv X pins σ H s)(hH:H l=some (.lst xs)):xs.length<=sizeLine/\∃(its:List Value)(n:Nat),Vals xs its/\xs.length=its.length/\s.heap.get? l=some {cls:=.type "list",data:=.seq its.toArray n}:=by
 obtain⟨z,its,n,r,e⟩:=I.hok l _ hH
 exact⟨z,its,n,r,r.length,e⟩
end
section
variable{X:Cx}
noncomputable def Qg4:V->List V->Hp->VK->Prop:=λx vs H Q=>∃l xs y,x=.ref l/\vs=[y]/\H l=some (.lst xs)/\xs.length<sizeLine/\Q .non (upd H l (.lst (xs++[y])))
theorem Qd2:MtM X "list.append" Qg4:=by
 intro pins s σ H x vs v us Q I rx rv h
 obtain⟨l,xs,y,rfl,rfl,hH,hz,q⟩:=h
 cases rx
 obtain⟨u,rfl,ru⟩:=rv.one
 obtain⟨z,its,n,r,hl,e⟩:=I.lstM hH
 refine RH F.slot_list_append ⟨_,e,rfl⟩ F.entry_list_append (F.args_list_append_2 _ _) (PySem.list_append l its.toArray n u (by rw[Us];omega)) ⟨e,?_⟩
 refine⟨.non,_,I.lset (its':=its++[u]) hH e (by simp) (r.append (.cons ru .nil)) ?_,rfl,q⟩
 rw[UD,RB]
 omega
noncomputable def rCat:R2:=λx y H Q=>∃l b xs zs,x=.ref l/\y=.ref b/\H l=some (.lst xs)/\H b=some (.lst zs)/\xs.length+zs.length<=sizeLine/\∀p,H p=none->Q (.ref p) (upd H p (.lst (xs++zs)))
theorem Qip:OpR X (binaryOp .Add) rCat:=by
 intro pins s σ H x y v u Q I rx ry h
 obtain⟨l,b,xs,zs,rfl,rfl,hH,hB,hz,q⟩:=h
 cases rx
 cases ry
 obtain⟨z,its,n,r,hl,e⟩:=I.lstM hH
 obtain⟨z2,its2,n2,r2,hl2,e2⟩:=I.lstM hB
 refine PySem.P.add_list e e2 ?_ (by rw[Us,Us];omega)
 have ea:its.toArray++its2.toArray=(its++its2).toArray:=by simp
 rw[ea]
 exact⟨.ref _,_,I.lnew (t':=s.toks) (r.append r2) (by rw[UD];omega),rfl,q _ I.fresh⟩
end
section
variable{prog:Program}{w:World}{A:Around}{E:Value->Shared->Prop}{s:Shared}
end
section
variable{X:Cx}
end
end
end L2
namespace Att
open PySem PySem.W PySem.Calls PyProof.Rows
theorem JF{P:Params}{h:Heap}:∀(ns:List Int)(vs:List Value),WellAll P h vs (ns.map WData.int)->IntsAre vs ns:=by
 intro ns
 induction ns with
 |nil =>
  intro vs w
  rw[List.map_nil]at w
  cases w
  exact .nil
 |cons n ns ih =>
  intro vs w
  rw[UO]at w
  cases w with
  |cons a b =>
   cases a
   exact .cons _ _ (ih _ b)
theorem Qd3{l:OpenLaw}{n:Nat}(hn:l.most=some n){P:Params}{h:Heap}{args:List WData}{vals:List Value}(hpre:l.row.toRowW.claim.pre args=true)(hwl:WellAll P h vals args):
  ∃a vs ns,vals=[Value.ref a]/\args=[WData.list (ns.map WData.int)]/\h.get? a=some {cls:=.type "list",data:=.seq vs.toArray}/\IntsAre vs ns/\ns.length<=n:=by
 have hsh:WShape.hasAll [] args [.list .int]=true:=(pre_splitW hpre).1
 have hc:l.pre.holds [] {args:=args}=true:=(pre_splitW hpre).2
 obtain⟨d,r,rfl,h1,h2⟩:=hasAllW_cons hsh
 obtain rfl:=hasAllW_nil h2
 obtain⟨xs,rfl,h3⟩:=hasW_list h1
 obtain⟨ns,rfl⟩:=items_int h3
 have hlen:ns.length<=n:=by
  unfold OpenLaw.pre at hc
  have h4:(WTm.not (.lt (.lit (.int (n:Int))) (.len (.arg 0)))).holds [] {args:=[.list (ns.map .int)]}=true:=by
   have h4:=(holds_andW hc).1
   rw[hn]at h4
   exact h4
  have h5:=condW_of h4 (w_not (w_lt w_lit (w_len_list (w_arg rfl))))
  rw[Uc]at h5
  refine RD λq=>?_
  have q':(n:Int)<((ns.length:Nat):Int):=by omega
  first
   | (rw[UL q']at h5;exact absurd h5 (by decide))
   | (simp at h5;omega)
 cases hwl with
 |cons w1 w2 =>
  cases w2
  cases w1 with
  |list ho hall=>exact⟨_,_,ns,rfl,rfl,ho,JF ns _ hall,hlen⟩
theorem Qd4(l:OpenLaw)(args:List WData):l.row.toRowW.claim.post args (.bool true) args=true :=
 postW_of (r:=l.row.toRowW) (X:=(true == true))
  (show WShape.has [] (.bool true) .bool=true by first|rfl|decide|simp[WShape.has,WShape.arms,WShape.armsAll])
  (show(WTm.eq .res (.lit (.bool true))).value [] {args:=args,res:=some (.bool true),after:=args}=some (.bool (true == true)) from w_eq_bool (w_res rfl) w_lit) rfl
theorem attach_call{l:OpenLaw}{n:Nat}{q:Program}{loose:List Str}{XP:(Str->Option Value)->Heap->Prop}{YP:World->Heap->Prop}{d:DefRec}(hn:l.most=some n)(hdf:d.params.defaults=[])(call:∀(w:World) (s₀ s₁:Shared) (mg mb:Str->Option Value) (fa:Addr) (o:Obj) (pm cd doc:Value) (a:Addr) (vs:List Value) (ns:List Int),
   Ground q loose [] XP w s₀ mg mb s₁.heap->YP w s₁.heap ->
   s₁.heap.get? fa=some o->o.data=.func (docDef d.name d.params d.body d.scope pm cd doc)->s₁.heap.CodeRec cd d.name->mg d.name=some (.ref fa) ->
   s₁.heap.get? a=some {cls:=.type "list",data:=.seq vs.toArray}->IntsAre vs ns->ns.length<=n->s₁.gens = #[] ->
   codeAny (model l.prog w) callerA (.call (.ref fa) ⟨[.ref a],[]⟩) (λr s'=>r=.ok (.ret (.bool true))/\OldK s₁.heap s'.heap/\s'.os=s₁.os/\AllBare s'.gens) s₁):
  WalkO q loose XP YP l.row.toRowW d [] (λf vs=>PySem.call f vs):=by
 intro w s₀ s₁ mg mb G Y fa o pm cd doc dV kV ho hd hcd hD hmg hg args vals as hpre hlay hrd hwl hlo
 obtain rfl:dV=.none:=Dflts.none hD hdf
 obtain rfl:kV=.none:=Dflts.noKw hD
 obtain⟨a,vs,ns,rfl,rfl,hobj,hints,hlen⟩:=Qd3 hn hpre hwl
 refine enter_call (RX (call w s₀ s₁ mg mb fa o pm cd doc a vs ns G Y ho (fd_plain hd) hcd hmg hobj hints hlen hg) λr s' hq=>?_)
 obtain⟨rfl,h2,h3,h4⟩:=hq
 exact⟨.inl ⟨.bool true,.bool true,[],rfl,λ_=>rfl,.bool true,Qd4 l _,λ_=>⟨List.Pairwise.nil,λ_ hm=>(nomatch hm)⟩⟩,h2,h3,h4⟩
section
variable{prog:Program}{w:World}{A:Around}{E:Value->Shared->Prop}{s:Shared}{K:Frag}
end
end Att
namespace L2
open PySem PySem.Spec PyProof.Rows
section
theorem Qbo:∀{vs:List Value}{ns:List Int},IntsAre vs ns->Vals (ns.map V.int) vs
 |_,_,.nil=>.nil
 |_,_,.cons n t h=>.cons ⟨t,rfl⟩ (Qbo h)
def Only(H:Hp):Prop:=∀b,H b=none\/∃o xs,H b=some (.frz o (.lst xs))
theorem Qfz{P:Program}{w:World}{K:Frag}{mg mb:Str->Option Value}{CX:CXT}{k:Nat}{fa a:Addr}{fd:FuncData}{x:Str}{sp:Sp}{s₁:Shared}{vs:List Value}{ns:List Int}(KX:K.In s₁.heap)(hns:s₁.heap.Ns mainGlobals mg)(hb:s₁.heap.Ns builtinsNs mb)(hbb:∀x:Str,x ≠ "__name__" -> mb x=bootBuiltins x)(hlim:s₁.heap.NoLimit)(hg:s₁.gens = #[])(ha:s₁.heap.get? a=some {cls:=.type "list",data:=.seq vs.toArray})(hi:IntsAre vs ns)(hl:ns.length<=sizeLine)(hr:Room k callerA)(F:∀base:Heap,K.In base->base.Ns mainGlobals mg->FnOk P w K mg base CX k fa fd [x] sp)(hbind:∀(s:Shared) (u:Value),BindsTo s fd ⟨[u],[]⟩ [(x,u)])(hsp:∀H:Hp,Only H->SqL K H a (ns.map V.int)->sp [.ref a] H (λv _=>v=.bl true) λ_ _ _=>False)(hCX:∀H e s',CX [] H s₁ (λ_ _ _=>False) e s'->False):
  codeAny (model P w) callerA (.call (.ref fa) ⟨[.ref a],[]⟩) (λr s'=>r=.ok (.ret (.bool true))/\OldK s₁.heap s'.heap/\s'.os=s₁.os/\AllBare s'.gens) s₁:=by
 have rv:=Qbo hi
 have lenV:=hi.length
 -- from an abstract heap in which nothing but the script may be tracked
 have core:∀H:Hp,Only H->SqL K H a (ns.map V.int)->HOk P w H s₁.heap->(∀b,H b≠none->b=a)->(H a≠none->K.lookup a=none) ->
   codeAny (model P w) callerA (.call (.ref fa) ⟨[.ref a],[]⟩) (λr s'=>r=.ok (.ret (.bool true))/\OldK s₁.heap s'.heap/\s'.os=s₁.os/\AllBare s'.gens) s₁:=by
  intro H hO hS hok hA hK
  have base_of:∀{b:Addr}{o:Obj},s₁.heap.get? b=some o->H b=none->(hidT s₁.heap H).get? b=some o:=λe n=>Qfq e n
  have noA:∀{b:Addr}{o:Obj}{es:Array DictEntry}{ep:Nat},s₁.heap.get? b=some o->o.data=.dict es ep->H b=none:=λ{b o es ep} e d=>by
   cases q:H b with
   |none=>rfl
   |some u =>
    have e':b=a:=hA b (by rw[q];simp)
    subst e'
    rw[ha]at e;cases e
    have d':Data.seq vs.toArray _=Data.dict es ep:=d
    cases d'
  have nsK:∀{b:Addr}{m:Str->Option Value},s₁.heap.Ns b m->(hidT s₁.heap H).Ns b m:=λ{b m} ⟨o,es,ep,e,d,r⟩=>⟨o,es,ep,base_of e (noA e d),d,r⟩
  have hKb:K.In (hidT s₁.heap H):=λb o e=>base_of (KX b o e) (by
   cases q:H b with
   |none=>rfl
   |some u =>
    have e':b=a:=hA b (by rw[q];simp)
    subst e'
    rw[hK (by rw[q];simp)]at e;cases e)
  have hM:Mod K mg (hidT s₁.heap H):=⟨hKb,nsK hns,⟨mb,nsK hb,hbb⟩,let ⟨mc,h1,h2⟩:=hlim;⟨mc,nsK h1,h2⟩⟩
  have e0:Env0 P w K mg (hidT s₁.heap H) callerA [] s₁ H:=⟨rfl,hM,λb o e=>QgK e,Nat.le_of_eq (QdJ _ _),trivial,λb hb=>absurd (show b∈([]:List Addr) from hb) (by simp),hok,.of_eq hg⟩
  refine RX ((F _ hKb (nsK hns)).run callerA [] s₁ H ⟨[.ref a],[]⟩ [.ref a] [.ref a] _ _ hr e0 (hbind s₁ (.ref a)) (.cons rfl .nil) (hsp H hO hS)) λr s' h=>?_
  cases r with
  |error e=>exact(hCX H e s' h).elim
  |ok fl =>
   cases fl with
   |next=>exact False.elim h
   |brk=>exact False.elim h
   |cont=>exact False.elim h
   |ret u =>
    obtain⟨v,H',os,bare,un,hok',r',q⟩:=h
    have q':v=.bl true:=q
    subst q'
    obtain rfl:u=Value.bool true:=r'
    refine⟨rfl,OldK.of_keep λb o e=>?_,os,bare⟩
    cases q:H b with
    |none=>exact un.keep b o e q (by intro z;exact absurd (show b∈([]:List Addr) from z) (by simp)) (by simp)
    |some u =>
     rcases hO b with z|⟨ob,xs,z⟩
     ·rw[q]at z;cases z
     ·have z2:=un.frzs b ob _ z
      obtain⟨e1,_⟩:=hok b _ z
      obtain⟨e2,_⟩:=hok' b _ z2
      rw[e]at e1;cases e1
      exact e2
 cases hk:K.lookup a with
 |some o =>
  -- the script is one of the module's own objects
  have e:=KX a o hk
  rw[ha]at e
  cases e
  refine core (λ_=>none) (λ_=>.inl rfl) (.inr ⟨_,vs.toArray,_,hk,rfl,rfl,rfl,by rw[Us,lenV];exact hl,by simpa using rv⟩) (λb u z=>by have z':(none:Option HO)=some u:=z;cases z') (λb z=>absurd rfl z) λz=>absurd rfl z
 |none =>
  refine core (λb=>if b=a then some (.frz {cls:=.type "list",data:=.seq vs.toArray} (.lst (ns.map V.int))) else none) (λb=>?_) (.inl (.inr ⟨{cls:=.type "list",data:=.seq vs.toArray},Uf rfl⟩)) (λb u z=>?_) (λb z=>?_) λ_=>hk
  ·by_cases hb:b=a
   ·exact .inr ⟨_,_,Uf hb⟩
   ·exact .inl (Uh hb)
  ·by_cases hb:b=a
   ·have z':=(Uf hb).symm.trans z
    cases z'
    subst hb
    exact⟨ha,by rw[Uc];exact hl,vs,_,rv,ha⟩
   ·have z':=(Uh hb).symm.trans z
    cases z'
  ·by_cases hb:b=a
   ·exact hb
   ·exact absurd (Uh hb) z
end
section
theorem walk_of{l:PySem.W.OpenLaw}{n k:Nat}{q:Program}{loose:List Str}{XP:(Str->Option Value)->Heap->Prop}{YP:World->Heap->Prop}{d:DefRec}{K:Params->Frag}{CX:World->CXT}{sp:World->Sp}{x:Str}(hn:l.most=some n)(hn2:n<=sizeLine)(hdf:d.params.defaults=[])(hr:Room k callerA)(hY:∀(w:World) (h:Heap),YP w h->(K w.params).In h)(F:∀(w:World) (mg:Str->Option Value) (fa:Addr) (h:Heap),(K w.params).In h->h.Ns mainGlobals mg->mg d.name=some (.ref fa) ->
   ∃fd:FuncData,(∀(s:Shared) (u:Value),BindsTo s fd ⟨[u],[]⟩ [(x,u)]) /\
    ∀base:Heap,(K w.params).In base->base.Ns mainGlobals mg->FnOk l.prog w (K w.params) mg base (CX w) k fa fd [x] (sp w))(hsp:∀(w:World) (H:Hp) (a:Addr) (ns:List Int),ns.length<=n->Only H->SqL (K w.params) H a (ns.map V.int)->sp w [.ref a] H (λv _=>v=.bl true) λ_ _ _=>False)(hCX:∀(w:World) (H:Hp) (s:Shared) (e:Value) (s':Shared),CX w [] H s (λ_ _ _=>False) e s'->False):
  PySem.W.WalkO q loose XP YP l.row.toRowW d [] (λf vs=>PySem.call f vs):=by
 refine Att.attach_call hn hdf λw s₀ s₁ mg mb fa o pm cd doc a vs ns G Y ho hd hcd hmg hobj hints hlen hg=>?_
 have KX:=hY w _ Y
 obtain⟨fd,hb,hF⟩:=F w mg fa _ KX G.T.g hmg
 exact Qfz KX G.T.g G.T.b G.T.builtins G.T.nolimit hg hobj hints (Uo hlen hn2) hr hF hb (λH hO hS=>hsp w H a ns hlen hO hS) λH e s'=>hCX w H s₁ e s'
end
section
noncomputable def Qd5(s:Stmt)(j:Nat):Stmt:=match s with
 |.ClassDef _ _ _ body _ _ _ _ _ _ _=>body.getD j (.Pass ⟨0,0,0,0⟩)
 |_=>.Pass ⟨0,0,0,0⟩
noncomputable def Z5(s:Stmt):Arguments:=match s with
 |.FunctionDef _ a _ _ _ _ _ _ _ _=>a
 |_=>{posonlyargs:=[],args:=[],vararg:=none,kwonlyargs:=[],kw_defaults:=[],kwarg:=none,defaults:=[]}
noncomputable def Zp(s:Stmt):List Stmt:=match s with
 |.FunctionDef _ _ b _ _ _ _ _ _ _=>b
 |_=>[]
noncomputable def Qe(s:Stmt):Scope:=match s with
 |.FunctionDef _ _ _ _ _ _ sc _ _ _=>sc
 |_=>{kind:=.function,names:=[],isGenerator:=false,isCoroutine:=false}
noncomputable abbrev CX0:CXT:=λ_ _ _ _ _ _=>False
structure Fun(K:Frag)(x qual:Str)(st:Stmt)(f:Addr)(fd:FuncData):Prop where
 ex:∃(oc:Value)(od:Option Addr)(kV doc pm:Value)(an:Option Addr)(cdv ct:Value)(osl:Array (Option Value)),
  fd=fnOf x qual (Z5 st) (Zp st) (Qe st) .none kV doc pm an cdv ct/\K.lookup f=some ⟨oc,od,.func fd,osl⟩/\codeIn K cdv qual=true
 kp:keepIn K (.ref f)=true
section
variable{P:Program}{w:World}{K:Frag}{mg:Str->Option Value}{base:Heap}
theorem Fun.ok{x qual:Str}{st:Stmt}{f:Addr}{fd:FuncData}{N ps:List Str}{k:Nat}{sp:Sp}(F:Fun K x qual st f fd)(S:FnScope N ps (Qe st))(len:∀vs H Q E,sp vs H Q E->vs.length=ps.length)(hbody:∀(cdv:Value) (A:Around) (outer:List Env) (s:Shared) (H:Hp) (vs:List V) (Q:VK) (E:XK),Room k (A.deeper (envOfC qual (Qe st) s.heap.objs.size f cdv))->sp vs H Q E ->
   ∃t,PSs (cxOf CX0 P w K mg base N qual (Qe st) f cdv A outer s H E).nox (Zp st) t/\t {nx:=λ_ H'=>Q .non H',rt:=Q} (start N vs) H):FnOk P w K mg base CX0 (k+1) f fd ps sp:=by
 obtain⟨oc,od,kV,doc,pm,an,cdv,ct,osl,rfl,lk,hcd⟩:=F.ex
 refine QgX lk hcd S len λA outer s H vs Q E hr hsp=>?_
 obtain⟨t,h,q⟩:=hbody cdv A outer s H vs Q E hr hsp
 exact⟨t,h.nox,q⟩
theorem Fun.binds{x qual:Str}{st:Stmt}{f:Addr}{fd:FuncData}{ps:List Str}(F:Fun K x qual st f fd)(h:∀(kV doc pm:Value) (an:Option Addr) (cdv ct:Value) (us:List Value),us.length=ps.length->bindArgs (fnOf x qual (Z5 st) (Zp st) (Qe st) .none kV doc pm an cdv ct) ⟨us,[]⟩=pure (ps.zip us)):Binds K fd ps []:=by
 obtain⟨oc,od,kV,doc,pm,an,cdv,ct,osl,rfl,lk,hcd⟩:=F.ex
 exact .all (h kV doc pm an cdv ct)
theorem Qd6{x qual:Str}{st:Stmt}{f:Addr}{oc:Value}{od an:Option Addr}{osl:Array (Option Value)}{kV doc pm cdv ct:Value}(l:K.lookup f=some ⟨oc,od,.func (fnOf x qual (Z5 st) (Zp st) (Qe st) .none kV doc pm an cdv ct),osl⟩)(c:codeIn K cdv qual=true)(k:keepIn K (.ref f)=true):Fun K x qual st f (fnOf x qual (Z5 st) (Zp st) (Qe st) .none kV doc pm an cdv ct):=⟨⟨oc,od,kV,doc,pm,an,cdv,ct,osl,rfl,l,c⟩,k⟩
end
section
variable{X:Cx}
end
def Same(H H':Hp):Prop:=∀b o,H b=some o->H' b=some o
theorem Same.refl(H:Hp):Same H H:=λ_ _ h=>h
theorem Same.trans{H H1 H2:Hp}(a:Same H H1)(b:Same H1 H2):Same H H2:=λc o h=>b c o (a c o h)
theorem Same.free{H H':Hp}(e:Same H H'){l:Addr}(h:H' l=Option.none):H l=Option.none:=by
 cases q:H l with
 |none=>rfl
 |some o =>
  rw[e l o q]at h
  cases h
theorem Same.seq{K:Frag}{H H':Hp}{a:Addr}{xs:List V}(e:Same H H')(h:SqL K H a xs):SqL K H' a xs:=by
 rcases h with(h|⟨o,h⟩)|h
 ·exact .inl (.inl (e _ _ h))
 ·exact .inl (.inr ⟨o,e _ _ h⟩)
 ·exact .inr h
end
end L2
set_option maxHeartbeats 4000000
namespace L3
open PySem
noncomputable abbrev Xc:=Nat×Option Nat
inductive D where
 |non|bl (b:Bool)|int (i:Int)|str (s:Str)|ref (n:Nat)|tup (ds:List D)|fl (ds:List D)
inductive GO where
 |lst (ds:List D)|ins (c:Nat) (fs:List (Str×D))|dct (kvs:List (Sum Int Str×D))|exc (x:Xc)
noncomputable abbrev G:=List GO
noncomputable abbrev S3:=List (Option D)
inductive Res(α:Type) where
 |ok (a:α) (g:G)|raise (x:Xc) (g:G)|stuck
noncomputable def Res.bind{α β:Type}:Res α->(α->G->Res β)->Res β
 |.ok a g,k=>k a g
 |.raise e g,_=>.raise e g
 |.stuck,_=>.stuck
inductive Out where
 |nx (σ:S3) (g:G)|rt (d:D) (g:G)|bk (σ:S3) (g:G)|ct (σ:S3) (g:G)|raise (x:Xc) (σ:S3) (g:G)|stuck
noncomputable abbrev ME:=S3->G->Res D
noncomputable abbrev MT:=S3->G->Res Bool
noncomputable abbrev MA:=S3->G->Res (List D)
noncomputable abbrev MS:=S3->G->Out
noncomputable abbrev MF:=List D->G->Res D
theorem Res.bind_ok{α β:Type}(a:α)(g:G)(k:α->G->Res β):(Res.ok a g).bind k=k a g:=rfl
noncomputable def SZ:Nat:=1000000
noncomputable def mVar(i:Nat):ME:=λσ g=>match σ[i]? with
 |some (some d)=>.ok d g
 |_=>.stuck
noncomputable def mLit(d:D):ME:=λ_ g=>.ok d g
noncomputable def mOp1(f:D->G->Res D)(a:ME):ME:=λσ g=>(a σ g).bind f
noncomputable def mOp2(f:D->D->G->Res D)(a b:ME):ME:=λσ g=>(a σ g).bind λx g1=>(b σ g1).bind λy g2=>f x y g2
noncomputable def mNil:MA:=λ_ g=>.ok [] g
noncomputable def Qa(a:ME)(r:MA):MA:=λσ g=>(a σ g).bind λx g1=>(r σ g1).bind λxs g2=>.ok (x::xs) g2
noncomputable def mOpA(f:List D->G->Res D)(a:MA):ME:=λσ g=>(a σ g).bind f
noncomputable def Qk(a:ME):MT:=λσ g=>(a σ g).bind λd g1=>match d with
 |.bl b=>.ok b g1
 |_=>.stuck
noncomputable def Zl(a:MT):MT:=λσ g=>(a σ g).bind λb g1=>.ok (!b) g1
noncomputable def ZC(a b:MT):MT:=λσ g=>(a σ g).bind λc g1=>if c=true then b σ g1 else .ok false g1
noncomputable def mOrT(a b:MT):MT:=λσ g=>(a σ g).bind λc g1=>if c=true then .ok true g1 else b σ g1
noncomputable def mNot(a:ME):ME:=λσ g=>(a σ g).bind λd g1=>match d with
 |.bl b=>.ok (.bl (!b)) g1
 |_=>.stuck
noncomputable def mAnd(a b:ME):ME:=λσ g=>(a σ g).bind λd g1=>match d with
 |.bl c=>if c=true then b σ g1 else .ok (.bl false) g1
 |_=>.stuck
noncomputable def mOr(a b:ME):ME:=λσ g=>(a σ g).bind λd g1=>match d with
 |.bl c=>if c=true then .ok (.bl true) g1 else b σ g1
 |_=>.stuck
noncomputable def mIfE(c:MT)(a b:ME):ME:=λσ g=>(c σ g).bind λt g1=>if t=true then a σ g1 else b σ g1
noncomputable def Yz(f f':D->D->G->Res D)(a b c:ME):ME:=λσ g=>(a σ g).bind λx g1=>(b σ g1).bind λy g2=>(f x y g2).bind λz g3=>match z with
 |.bl true=>(c σ g3).bind λw g4=>f' y w g4
 |.bl false=>.ok (.bl false) g3
 |_=>.stuck
noncomputable def QO:MS:=λσ g=>.nx σ g
noncomputable def mSeq(a b:MS):MS:=λσ g=>match a σ g with
 |.nx σ' g'=>b σ' g'
 |o=>o
noncomputable def YO(a:ME):MS:=λσ g=>match a σ g with
 |.ok _ g'=>.nx σ g'
 |.raise e g'=>.raise e σ g'
 |.stuck=>.stuck
noncomputable def mRet(a:ME):MS:=λσ g=>match a σ g with
 |.ok d g'=>.rt d g'
 |.raise e g'=>.raise e σ g'
 |.stuck=>.stuck
noncomputable def QjA:MS:=λ_ g=>.rt .non g
noncomputable def mIf(c:MT)(a b:MS):MS:=λσ g=>match c σ g with
 |.ok t g'=>if t=true then a σ g' else b σ g'
 |.raise e g'=>.raise e σ g'
 |.stuck=>.stuck
noncomputable def YQ(c:Nat)(a:MA):MS:=λσ g=>match a σ g with
 |.ok ds g'=>if ds.length<=SZ then .raise (c,none) σ g' else .stuck
 |.raise e g'=>.raise e σ g'
 |.stuck=>.stuck
structure MH where
 cs:List Nat
 no:List Nat
 nm:Option Nat
 suite:MS
noncomputable def Qiq(i:Nat):Out->Out
 |.nx σ g=>.nx (σ.set i none) g
 |.rt d g=>.rt d g
 |_=>.stuck
noncomputable def runH:List MH->Xc->S3->G->Out
 |[],x,σ,g=>.raise x σ g
 |h::r,x,σ,g=>if x.1∈h.cs then (match h.nm with
  |none=>(match h.suite σ g with
   |.nx σ' g'=>.nx σ' g'
   |.rt d g'=>.rt d g'
   |_=>.stuck)
  |some i=>Qiq i (h.suite (σ.set i (some (.ref g.length))) (g++[.exc x]))) else if x.1∈h.no then runH r x σ g else .stuck
noncomputable def mTry(b:MS)(hs:List MH):MS:=λσ g=>match b σ g with
 |.raise x σ' g'=>runH hs x σ' g'
 |o=>o
noncomputable abbrev MG:=D->S3->Option S3
noncomputable def gSet(i:Nat):MG:=λd σ=>some (σ.set i (some d))
noncomputable def Qdi:List MG->List D->S3->Option S3
 |[],[],σ=>some σ
 |t::ts,d::ds,σ=>(t d σ).bind λσ'=>Qdi ts ds σ'
 |_,_,_=>none
noncomputable def QaF(ts:List MG):MG:=λd σ=>match d with
 |.tup ds=>Qdi ts ds σ
 |_=>none
noncomputable def mAsg(t:MG)(a:ME):MS:=λσ g=>match a σ g with
 |.ok d g'=>(match t d σ with
  |some σ'=>.nx σ' g'
  |none=>.stuck)
 |.raise e g'=>.raise e σ g'
 |.stuck=>.stuck
structure Src where
 at':G->Nat->Option (Option D)
 top:Nat
noncomputable abbrev MI:=S3->G->Res Src
noncomputable def forL(src:Src)(t:MG)(body:MS):Nat->Nat->S3->G->Out
 |0,_,_,_=>.stuck
 |f+1,i,σ,g=>match src.at' g i with
  |some (some d)=>(match t d σ with
   |some σ1=>(match body σ1 g with
    |.nx σ2 g2=>forL src t body f (i+1) σ2 g2
    |.ct σ2 g2=>forL src t body f (i+1) σ2 g2
    |.bk σ2 g2=>.nx σ2 g2
    |o=>o)
   |none=>.stuck)
  |some none=>.nx σ g
  |none=>.stuck
noncomputable def mFor(it:MI)(t:MG)(body:MS):MS:=λσ g=>match it σ g with
 |.ok src g'=>forL src t body (src.top+1) 0 σ g'
 |.raise e g'=>.raise e σ g'
 |.stuck=>.stuck
noncomputable def ZT(src:Src)(t:MG)(c:MT)(e:ME):Nat->Nat->S3->G->List D->Res (List D)
 |0,_,_,_,_=>.stuck
 |f+1,i,σ,g,acc=>match src.at' g i with
  |some (some d)=>(match t d σ with
   |some σ1=>(match c σ1 g with
    |.ok b g1=>if b=true then (match e σ1 g1 with
     |.ok y g2=>ZT src t c e f (i+1) σ1 g2 (acc++[y])
     |_=>.stuck) else ZT src t c e f (i+1) σ1 g1 acc
    |_=>.stuck)
   |none=>.stuck)
  |some none=>.ok acc g
  |none=>.stuck
noncomputable def capt(n:Nat)(cap:List Nat)(σ:S3):S3:=List.replicate n none++cap.map λi=>(σ[i]?).getD none
noncomputable def newL(ds:List D)(g:G):Res D:=if ds.length<=SZ then .ok (.ref g.length) (g++[.lst ds]) else .stuck
noncomputable def pTup(xs:List D)(g:G):Res D:=if xs.length<=SZ then .ok (.tup xs) g else .stuck
noncomputable def Zm(it:MI)(n:Nat)(cap:List Nat)(t:MG)(c:MT)(e:ME):ME:=λσ g=>match it σ g with
 |.ok src g1=>if src.top<=SZ then (match ZT src t c e (src.top+1) 0 (capt n cap σ) g1 []with
  |.ok ds g2=>.ok (.ref g2.length) (g2++[.lst ds])
  |_=>.stuck) else .stuck
 |_=>.stuck
noncomputable def QP:MT:=λ_ g=>.ok true g
noncomputable def mDef(k n:Nat)(body:MS):MF:=λds g=>if ds.length=k then (match body (ds.map some++List.replicate n none) g with
 |.nx _ g'=>.ok .non g'
 |.rt d g'=>.ok d g'
 |.raise e _ g'=>.raise e g'
 |_=>.stuck) else .stuck
noncomputable def Qn(f:MF)(a:MA):ME:=λσ g=>(a σ g).bind f
noncomputable def Qd7(c:Nat)(f:MF)(a:MA):ME:=λσ g=>(a σ g).bind λxs g1=>(f (.ref g1.length::xs) (g1++[.ins c []])).bind λd g2=>match d with
 |.non=>.ok (.ref g1.length) g2
 |_=>.stuck
noncomputable def QfA(cs:List Nat)(f:Str)(o:ME):ME:=mOp1 (λx g=>match x with
 |.ref n=>(match g[n]? with
  |some (.ins c fs)=>if c∈cs then (match fs.lookup f with
   |some d=>.ok d g
   |none=>.stuck) else .stuck
  |_=>.stuck)
 |_=>.stuck) o
noncomputable def putG(f:Str)(v:D):List (Str×D)->List (Str×D)
 |[]=>[(f,v)]
 | (g,x)::r=>if g=f then (g,v)::r else (g,x)::putG f v r
noncomputable def Jt(cs:List Nat)(f:Str)(o v:ME):MS:=λσ g=>match v σ g with
 |.ok y g1=>(match o σ g1 with
  |.ok (.ref n) g2=>(match g2[n]? with
   |some (.ins c fs)=>if c∈cs/\fs.length<100 then .nx σ (g2.set n (.ins c (putG f y fs))) else .stuck
   |_=>.stuck)
  |.raise e g'=>.raise e σ g'
  |_=>.stuck)
 |.raise e g'=>.raise e σ g'
 |.stuck=>.stuck
noncomputable def ixD(n:Nat)(i:Int):Option Nat:=if 0<=i then (if i<n then some i.toNat else none) else if -(n:Int)<=i then some (i+n).toNat else none
noncomputable def Zz(o i v:ME):MS:=λσ g=>match v σ g with
 |.ok y g1=>(match o σ g1 with
  |.ok (.ref n) g2=>(match i σ g2 with
   |.ok (.int k) g3=>(match g3[n]? with
    |some (.lst ds)=>(match ixD ds.length k with
     |some j=>.nx σ (g3.set n (.lst (ds.set j y)))
     |none=>.stuck)
    |_=>.stuck)
   |.raise e g'=>.raise e σ g'
   |_=>.stuck)
  |.raise e g'=>.raise e σ g'
  |_=>.stuck)
 |.raise e g'=>.raise e σ g'
 |.stuck=>.stuck
noncomputable def JG(d:D)(g:G):Res Src:=match d with
 |.tup ds=>.ok ⟨λ_ i=>some ds[i]?,ds.length⟩ g
 |.fl ds=>.ok ⟨λ_ i=>some ds[i]?,ds.length⟩ g
 |.ref n=>(match g[n]? with
  |some (.lst ds)=>.ok ⟨λg i=>(match g[n]? with|some (.lst es)=>some es[i]? | _=>none),ds.length⟩ g
  |_=>.stuck)
 |_=>.stuck
noncomputable def Qt(a:ME):MI:=λσ g=>(a σ g).bind JG
noncomputable def Zv(lo:Int)(n:Nat):Src:=⟨λ_ i=>some (if i<n then some (.int (lo+i)) else none),n⟩
def inR(j:Int):Prop:=-(2^62)<=j/\j<2^62
noncomputable instance (j:Int):Decidable (inR j):=inferInstanceAs (Decidable (_/\_))
noncomputable def Q9(a:ME):MI:=λσ g=>(a σ g).bind λd g1=>match d with
 |.int j=>if inR j then .ok (Zv 0 j.toNat) g1 else .stuck
 |_=>.stuck
noncomputable def Qs(g:G):D->Option (Bool×List D)
 |.tup ds=>some (false,ds)
 |.fl ds=>some (true,ds)
 |.ref n=>(match g[n]? with
  |some (.lst ds)=>some (true,ds)
  |_=>none)
 |_=>none
noncomputable def Qcy(d1 d2:D)(g:G):Res Src:=match Qs g d1,Qs g d2 with
 |some (_,xs),some (_,ys)=>.ok ⟨λg i=>(match Qs g d1,Qs g d2 with
  |some (_,xs),some (_,ys)=>(match xs[i]?,ys[i]? with
   |some x,some y=>some (some (.tup [x,y]))
   |_,_=>some none)
  |_,_=>none),min xs.length ys.length⟩ g
 |_,_=>.stuck
noncomputable def Qcz(a b:ME):MI:=λσ g=>(a σ g).bind λx g1=>(b σ g1).bind λy g2=>Qcy x y g2
noncomputable def pAdd(x y:D)(g:G):Res D:=match x,y with
 |.int i,.int j=>.ok (.int (i+j)) g
 |.str s,.str t=>if s.length+t.length<=SZ then .ok (.str (s++t)) g else .stuck
 |.tup xs,.tup ys=>if xs.length+ys.length<=SZ then .ok (.tup (xs++ys)) g else .stuck
 |.ref n,.ref m=>(match g[n]?,g[m]? with
  |some (.lst xs),some (.lst ys)=>if xs.length+ys.length<=SZ then .ok (.ref g.length) (g++[.lst (xs++ys)]) else .stuck
  |_,_=>.stuck)
 |_,_=>.stuck
noncomputable def pSub(x y:D)(g:G):Res D:=match x,y with
 |.int i,.int j=>.ok (.int (i-j)) g
 |_,_=>.stuck
def cM(i:Int):Prop:=-(2^64)<i/\i<2^64
noncomputable instance (j:Int):Decidable (cM j):=inferInstanceAs (Decidable (_/\_))
noncomputable def repS(s:Str)(k:Nat):Str:=⟨(List.replicate k s.cps).foldl (· ++ ·) #[]⟩
noncomputable def pMul(x y:D)(g:G):Res D:=match x,y with
 |.int i,.int j=>if cM i\/cM j then .ok (.int (i*j)) g else .stuck
 |.str s,.int k=>if (1<=k/\k<=10000)/\s.length*k.toNat<=SZ then .ok (.str (repS s k.toNat)) g else .stuck
 |_,_=>.stuck
noncomputable def Q7(x y:D)(g:G):Res D:=match x,y with
 |.int i,.int j=>if 0<j/\j<1073741824 then .ok (.int (i/j)) g else .stuck
 |_,_=>.stuck
noncomputable def pMod(x y:D)(g:G):Res D:=match x,y with
 |.int i,.int j=>if 0<j then .ok (.int (i%j)) g else .stuck
 |_,_=>.stuck
noncomputable def pNeg(x:D)(g:G):Res D:=match x with
 |.int i=>.ok (.int (-i)) g
 |_=>.stuck
noncomputable def pCmp(r:Int->Int->Bool)(x y:D)(g:G):Res D:=match x,y with
 |.int i,.int j=>.ok (.bl (r i j)) g
 |_,_=>.stuck
noncomputable def pLt:=pCmp λi j=>decide (i<j)
noncomputable def pLe:=pCmp λi j=>decide (i<=j)
noncomputable def pGt:=pCmp λi j=>decide (j<i)
noncomputable def pGe:=pCmp λi j=>decide (j<=i)
noncomputable def b2I(b:Bool):Int:=if b then 1 else 0
noncomputable def eqT(_:G)(x y:D):Option Bool:=match x,y with
 |.int i,.int j=>some (i == j)
 |.str s,.str t=>some (s == t)
 |.bl a,.bl b=>some (a == b)
 |_,_=>none
noncomputable def pEq(x y:D)(g:G):Res D:=match eqT g x y with
 |some b=>.ok (.bl b) g
 |none=>.stuck
noncomputable def Qbp:List D->Option (List Int)
 |[]=>some []
 |.int i::r=>(Qbp r).map (i :: ·)
 |_::_=>none
noncomputable def neT(g:G)(x y:D):Option Bool:=match x,y with
 |.non,.non=>some true
 |.non,.int _=>some false
 |.int _,.non=>some false
 |.ref n,.ref m=>(match g[n]?,g[m]? with
  |some (.lst xs),some (.lst ys)=>(match Qbp xs,Qbp ys with
   |some is,some js=>some (decide (is=js))
   |_,_=>none)
  |_,_=>none)
 |x,y=>eqT g x y
noncomputable def pNe(x y:D)(g:G):Res D:=match neT g x y with
 |some b=>.ok (.bl (!b)) g
 |none=>.stuck
noncomputable def isNon:D->Bool
 |.non=>true
 |_=>false
noncomputable def pIs(x y:D)(g:G):Res D:=match y with
 |.non=>.ok (.bl (isNon x)) g
 |_=>.stuck
noncomputable def Qd8(x y:D)(g:G):Res D:=match y with
 |.non=>.ok (.bl (!isNon x)) g
 |_=>.stuck
noncomputable def atD{α:Type}(xs:List α)(i:Int):Option α:=(ixD xs.length i).bind λj=>xs[j]?
noncomputable def pIx(x y:D)(g:G):Res D:=match x,y with
 |.tup ds,.int i=>(match atD ds i with
  |some d=>.ok d g
  |none=>.stuck)
 |.fl ds,.int i=>(match atD ds i with
  |some d=>.ok d g
  |none=>.stuck)
 |.ref n,.int i=>(match g[n]? with
  |some (.lst ds)=>(match atD ds i with
   |some d=>.ok d g
   |none=>.stuck)
  |_=>.stuck)
 |.str s,.int i=>if s.length<=SZ then (match atD s.cps.toList i with
  |some c=>.ok (.str ⟨#[c]⟩) g
  |none=>.stuck) else .stuck
 |_,_=>.stuck
noncomputable def sIxD(n d:Nat):Option Int->Nat
 |none=>d
 |some v=>if v<0 then (v+(n:Int)).toNat else min v.toNat n
noncomputable def cutD{α:Type}(xs:List α)(lo hi:Option Int):List α:=(xs.drop (sIxD xs.length 0 lo)).take (sIxD xs.length xs.length hi-sIxD xs.length 0 lo)
noncomputable def QcA(x:D)(lo hi:Option Int)(g:G):Res D:=match x with
 |.ref n=>(match g[n]? with
  |some (.lst ds)=>.ok (.ref g.length) (g++[.lst (cutD ds lo hi)])
  |_=>.stuck)
 |_=>.stuck
noncomputable abbrev MO:=S3->G->Res (Option Int)
noncomputable def YD:MO:=λ_ g=>.ok none g
noncomputable def Qbq(a:ME):MO:=λσ g=>(a σ g).bind λd g1=>match d with
 |.int i=>.ok (some i) g1
 |_=>.stuck
noncomputable def JH(a:ME)(lo hi:MO):ME:=λσ g=>(a σ g).bind λx g1=>(lo σ g1).bind λl g2=>(hi σ g2).bind λh g3=>QcA x l h g3
noncomputable def pLen(x:D)(g:G):Res D:=match x with
 |.tup ds=>.ok (.int ds.length) g
 |.fl ds=>.ok (.int ds.length) g
 |.ref n=>(match g[n]? with
  |some (.lst ds)=>.ok (.int ds.length) g
  |_=>.stuck)
 |.str s=>if s.length<=SZ then .ok (.int s.length) g else .stuck
 |_=>.stuck
noncomputable def ZF(x:D)(g:G):Res D:=match x with
 |.tup ds=>.ok (.tup ds) g
 |.fl ds=>.ok (.tup ds) g
 |.ref n=>(match g[n]? with
  |some (.lst ds)=>.ok (.tup ds) g
  |_=>.stuck)
 |_=>.stuck
noncomputable def Y9(x:D)(g:G):Res D:=match x with
 |.tup ds=>.ok (.ref g.length) (g++[.lst ds])
 |.fl ds=>.ok (.ref g.length) (g++[.lst ds])
 |.ref n=>(match g[n]? with
  |some (.lst ds)=>.ok (.ref g.length) (g++[.lst ds])
  |_=>.stuck)
 |_=>.stuck
noncomputable def Yf(o e:ME):ME:=λσ g=>(o σ g).bind λx g1=>match x with
 |.ref n=>(match g1[n]? with
  |some (.lst _)=>(e σ g1).bind λy g2=>(match g2[n]? with
   |some (.lst ds)=>if ds.length<SZ then .ok .non (g2.set n (.lst (ds++[y]))) else .stuck
   |_=>.stuck)
  |_=>.stuck)
 |_=>.stuck
inductive Ty where
 |non|bool|int|str|tuple|list|dict
 deriving DecidableEq
noncomputable def Ty.name:Ty->String
 |.non => "NoneType" |.bool => "bool" |.int => "int" |.str => "str" |.tuple => "tuple" |.list => "list" |.dict => "dict"
noncomputable def tyLe(t c:Ty):Bool:=t == c || (t == .bool && c == .int)
noncomputable def tyOf(g:G):D->Option Ty
 |.non=>some .non
 |.bl _=>some .bool
 |.int _=>some .int
 |.str _=>some .str
 |.tup _=>some .tuple
 |.fl _=>some .list
 |.ref n=>(match g[n]? with
  |some (.lst _)=>some .list
  |some (.dct _)=>some .dict
  |_=>none)
noncomputable def Yg(c:Ty)(x:D)(g:G):Res D:=match tyOf g x with
 |some t=>.ok (.bl (tyLe t c)) g
 |none=>.stuck
noncomputable def Q5(all cs:List Nat)(x:D)(g:G):Res D:=match x with
 |.ref n=>(match g[n]? with
  |some (.exc e)=>if e.1∈all then .ok (.bl (decide (e.1∈cs))) g else .stuck
  |_=>.stuck)
 |.non=>.ok (.bl false) g
 |_=>.stuck
noncomputable def allB:List D->Option Bool
 |[]=>some true
 |.bl b::r=>(allB r).map (b && ·)
 |_::_=>none
noncomputable def pAll(x:D)(g:G):Res D:=match x with
 |.ref n=>(match g[n]? with
  |some (.lst ds)=>(match allB ds with
   |some b=>.ok (.bl b) g
   |none=>.stuck)
  |_=>.stuck)
 |_=>.stuck
noncomputable def Qam:D->Bool
 |.non=>true
 |.bl _=>true
 |.int _=>true
 |.str _=>true
 |_=>false
noncomputable def eqF(x y:D):Bool:=match x,y with
 |.non,.non=>true
 |.bl a,.bl b=>a == b
 |.int i,.int j=>i == j
 |.str s,.str t=>s == t
 |.bl a,.int j=>b2I a == j
 |.int i,.bl b=>i == b2I b
 |_,_=>false
noncomputable def pIn(neg:Bool)(x y:D)(g:G):Res D:=match Qs g y with
 |some (_,ds)=>if Qam x=true/\ds.all Qam=true then .ok (.bl (if neg=true then !(ds.any λd=>eqF d x) else ds.any λd=>eqF d x)) g else .stuck
 |none=>.stuck
end L3
namespace L3
open PySem PySem.Spec PyProof.Rows L2
def SqF(K:Frag)(H:Hp)(a:Addr)(xs:List V):Prop:=(∃o,H a=some (.frz o (.lst xs)))\/SqL K (λ_=>none) a xs
theorem SqF.sq{K:Frag}{H:Hp}{a:Addr}{xs:List V}(h:SqF K H a xs):SqL K H a xs:=by
 rcases h with⟨o,h⟩|(h|⟨o,h⟩)|h
 ·exact .inl (.inr ⟨o,h⟩)
 ·cases h
 ·cases h
 ·exact .inr h
mutual
inductive Den(K:Frag)(μ:List Addr)(H:Hp):V->D->Prop where
 |non:Den K μ H .non .non
 |bl (b:Bool):Den K μ H (.bl b) (.bl b)
 |int (i:Int):Den K μ H (.int i) (.int i)
 |str (x:Str):Den K μ H (.str x) (.str x)
 |ref {n:Nat} {a:Addr} (h:μ[n]?=some a):Den K μ H (.ref a) (.ref n)
 |tup {a:Addr} {vs:List V} {ds:List D} (h:SqT K H a vs) (hs:Dens K μ H vs ds):Den K μ H (.ref a) (.tup ds)
 |fl {a:Addr} {vs:List V} {ds:List D} (h:SqF K H a vs) (hs:Dens K μ H vs ds):Den K μ H (.ref a) (.fl ds)
inductive Dens(K:Frag)(μ:List Addr)(H:Hp):List V->List D->Prop where
 |nil:Dens K μ H [] []
 |cons {v:V} {d:D} {vs:List V} {ds:List D} (h:Den K μ H v d) (hs:Dens K μ H vs ds):Dens K μ H (v::vs) (d::ds)
end
structure Ext(K:Frag)(μ:List Addr)(H:Hp)(μ':List Addr)(H':Hp):Prop where
 pre:∃t,μ'=μ++t
 tup:∀a xs,SqT K H a xs->SqT K H' a xs
 fl:∀a xs,SqF K H a xs->SqF K H' a xs
 xd:∀a fs,H a=some (.xd fs)->H' a=some (.xd fs)
section
variable{K:Frag}{ca:Nat->Addr}{μ μ' μ'':List Addr}{H H' H'':Hp}
theorem Ext.refl:Ext K μ H μ H:=⟨⟨[],by simp⟩,λ_ _ h=>h,λ_ _ h=>h,λ_ _ h=>h⟩
theorem Ext.trans(a:Ext K μ H μ' H')(b:Ext K μ' H' μ'' H''):Ext K μ H μ'' H'':=by
 obtain⟨t,e⟩:=a.pre
 obtain⟨u,f⟩:=b.pre
 exact⟨⟨t++u,by rw[f,e,TZ]⟩,λx xs h=>b.tup x xs (a.tup x xs h),λx xs h=>b.fl x xs (a.fl x xs h),λx xs h=>b.xd x xs (a.xd x xs h)⟩
theorem Ext.at(e:Ext K μ H μ' H'){n:Nat}{a:Addr}(h:μ[n]?=some a):μ'[n]?=some a:=by
 obtain⟨t,rfl⟩:=e.pre
 have hl:n<μ.length:=(Ui.mp h).1
 rw[UE hl]
 exact h
mutual
theorem Den.mono(e:Ext K μ H μ' H'):∀{v:V}{d:D},Den K μ H v d->Den K μ' H' v d
 |_,_,.non=>.non
 |_,_,.bl b=>.bl b
 |_,_,.int i=>.int i
 |_,_,.str x=>.str x
 |_,_,.ref h=>.ref (e.at h)
 |_,_,.tup h hs=>.tup (e.tup _ _ h) (Dens.mono e hs)
 |_,_,.fl h hs=>.fl (e.fl _ _ h) (Dens.mono e hs)
theorem Dens.mono(e:Ext K μ H μ' H'):∀{vs:List V}{ds:List D},Dens K μ H vs ds->Dens K μ' H' vs ds
 |_,_,.nil=>.nil
 |_,_,.cons h hs=>.cons (Den.mono e h) (Dens.mono e hs)
end
theorem Dens.length:∀{vs:List V}{ds:List D},Dens K μ H vs ds->vs.length=ds.length
 |_,_,.nil=>rfl
 |_,_,.cons _ t=>by rw[Uz,Uz,Dens.length t]
theorem Dens.get:∀{vs:List V}{ds:List D}{i:Nat}{d:D},Dens K μ H vs ds->ds[i]?=some d->∃v,vs[i]?=some v/\Den K μ H v d
 |_,_,_,_,.nil,e=>by simp at e
 |_,_,0,_,.cons r _,e=>by simp at e;subst e;exact⟨_,rfl,r⟩
 |_,_,i+1,x,.cons _ t,e=>by
  obtain⟨u,h1,h2⟩:=Dens.get (i:=i) (d:=x) t (by simpa using e)
  exact⟨u,by simpa using h1,h2⟩
theorem Dens.append:∀{vs ws:List V}{ds es:List D},Dens K μ H vs ds->Dens K μ H ws es->Dens K μ H (vs++ws) (ds++es)
 |_,_,_,_,.nil,h=>h
 |_,_,_,_,.cons a b,h=>.cons a (Dens.append b h)
theorem Dens.set{x:V}{u:D}(r:Den K μ H x u):∀{xs:List V}{us:List D}(i:Nat),Dens K μ H xs us->Dens K μ H (xs.set i x) (us.set i u)
 |_,_,_,.nil=>.nil
 |_,_,0,.cons _ t=>.cons r t
 |_,_,i+1,.cons q t=>.cons q (Dens.set r i t)
theorem Dens.take:∀{xs:List V}{us:List D}(n:Nat),Dens K μ H xs us->Dens K μ H (xs.take n) (us.take n)
 |_,_,0,_=>.nil
 |_,_,_+1,.nil=>.nil
 |_,_,n+1,.cons r t=>.cons r (Dens.take n t)
theorem Dens.drop:∀{xs:List V}{us:List D}(n:Nat),Dens K μ H xs us->Dens K μ H (xs.drop n) (us.drop n)
 |_,_,0,r=>r
 |_,_,_+1,.nil=>.nil
 |_,_,n+1,.cons _ t=>Dens.drop n t
theorem Dens.ints(ns:List Int):Dens K μ H (ns.map V.int) (ns.map D.int):=by
 induction ns with
 |nil=>exact .nil
 |cons n r ih=>exact .cons (.int n) ih
noncomputable def FRel(K:Frag)(μ:List Addr)(H:Hp):List (Str×V)->List (Str×D)->Prop:=Paired λp q=>p.1=q.1/\Den K μ H p.2 q.2
noncomputable def KRel(K:Frag)(μ:List Addr)(H:Hp):List (Key×V)->List (Key×D)->Prop:=Paired λp q=>p.1=q.1/\Den K μ H p.2 q.2
noncomputable def LnH(H:Hp):Option Nat->Option Addr->Prop
 |none,none=>True
 |some n,some dx=>H dx=some (.xd [("line",.int n)])
 |_,_=>False
theorem LnH.mono{H H':Hp}(h:∀a fs,H a=some (.xd fs)->H' a=some (.xd fs)):∀{l:Option Nat}{dd:Option Addr},LnH H l dd->LnH H' l dd
 |none,none,_=>True.intro
 |some _,some _,q=>h _ _ q
 |none,some _,q=>(show False from q).elim
 |some _,none,q=>(show False from q).elim
def XOb(ca:Nat->Addr)(H:Hp)(x:Xc)(o:Obj):Prop:=o.cls=.ref (ca x.1)/\LnH H x.2 o.dict
theorem XOb.map{ca:Nat->Addr}{H:Hp}{x:Xc}{o:Obj}(h:XOb ca H x o)(f:Array Value->Array Value):XOb ca H x (o.mapFields f):=by
 obtain⟨c,d,dt,sl⟩:=o
 cases dt <;> exact h
noncomputable def XO(ca:Nat->Addr)(a:Addr)(x:Xc)(dd:Option Addr):HO:=.ext λh=>∃o vs,h.get? a=some o/\(o.cls=.ref (ca x.1)/\o.dict=dd)/\o.data=.fields vs
noncomputable def ORep(K:Frag)(ca:Nat->Addr)(μ:List Addr)(H:Hp)(a:Addr):GO->Prop
 |.dct ks=>∃kv,H a=some (.dK kv)/\KRel K μ H kv ks
 |.exc x=>∃dd,H a=some (XO ca a x dd)/\LnH H x.2 dd
 |.lst ds=>∃vs,H a=some (.lst vs)/\Dens K μ H vs ds
 |.ins c fs=>∃dx fv,H a=some (.ins (ca c) dx fv)/\FRel K μ H fv fs
structure GRep(K:Frag)(ca:Nat->Addr)(μ:List Addr)(H:Hp)(g:G):Prop where
 len:μ.length=g.length
 nd:μ.Nodup
 obj:∀(n:Nat)(a:Addr)(o:GO),μ[n]?=some a->g[n]?=some o->ORep K ca μ H a o
structure Rep(K:Frag)(ca:Nat->Addr)(μ:List Addr)(σ3:S3)(g:G)(σ:L2.St)(H:Hp):Prop where
 g:GRep K ca μ H g
 len:σ.length=σ3.length
 st:∀(i:Nat)(d:D),σ3[i]?=some (some d)->∃v,σ[i]?=some (some v)/\Den K μ H v d
theorem FRel.mono(e:Ext K μ H μ' H'){fv:List (Str×V)}{fs:List (Str×D)}(h:FRel K μ H fv fs):FRel K μ' H' fv fs:=Paired.imp' (λ_ _ q=>⟨q.1,q.2.mono e⟩) h
theorem KRel.mono(e:Ext K μ H μ' H'){fv:List (Key×V)}{fs:List (Key×D)}(h:KRel K μ H fv fs):KRel K μ' H' fv fs:=Paired.imp' (λ_ _ q=>⟨q.1,q.2.mono e⟩) h
theorem Rep.go{σ3:S3}{g g':G}{σ:L2.St}(r:Rep K ca μ σ3 g σ H)(e:Ext K μ H μ' H')(h:GRep K ca μ' H' g'):Rep K ca μ' σ3 g' σ H' :=
 ⟨h,r.len,λi d z=>by obtain⟨v,h1,h2⟩:=r.st i d z;exact⟨v,h1,h2.mono e⟩⟩
theorem GRep.addr{g:G}(r:GRep K ca μ H g){n:Nat}{o:GO}(h:g[n]?=some o):∃a,μ[n]?=some a/\ORep K ca μ H a o:=by
 have hl:n<g.length:=(Ui.mp h).1
 have hm:n<μ.length:=by rw[r.len];exact hl
 exact⟨μ[n],by simp[hm],r.obj n _ o (by simp[hm]) h⟩
theorem ORep.is{a:Addr}{o:GO}(h:ORep K ca μ H a o):∃u,H a=some u:=by
 cases o with
 |lst ds=>obtain⟨_,h,_⟩:=h;exact⟨_,h⟩
 |ins c fs=>obtain⟨_,_,h,_⟩:=h;exact⟨_,h⟩
 |dct ks=>obtain⟨_,h,_⟩:=h;exact⟨_,h⟩
 |exc x=>obtain⟨_,h,_⟩:=h;exact⟨_,h⟩
theorem GRep.known{g:G}(r:GRep K ca μ H g){a:Addr}(h:a∈μ):∃u,H a=some u:=by
 obtain⟨n,hn⟩:=T5 h
 have hl:n<μ.length:=(Ui.mp hn).1
 have hg:n<g.length:=by rw[<-r.len];exact hl
 exact(r.obj n a g[n] hn (by simp[hg])).is
theorem QD{p:Addr}{o:HO}(hp:H p=none):Ext K μ H μ (upd H p o):=⟨⟨[],by simp⟩,λa xs h=>by
 rcases h with(h|⟨u,h⟩)|h
 ·exact .inl (.inl (by rw[Qh (Qx h hp)];exact h))
 ·exact .inl (.inr ⟨u,by rw[Qh (Qx h hp)];exact h⟩)
 ·exact .inr h,λa xs h=>by
 rcases h with⟨u,h⟩|h
 ·exact .inl ⟨u,by rw[Qh (Qx h hp)];exact h⟩
 ·exact .inr h,λa fs h=>by rw[Qh (Qx h hp)];exact h⟩
theorem ORep.mono{a:Addr}{o:GO}(e:Ext K μ H μ' H')(ha:∀u,H a=some u->H' a=some u)(h:ORep K ca μ H a o):ORep K ca μ' H' a o:=by
 cases o with
 |lst ds=>obtain⟨vs,h,q⟩:=h;exact⟨vs,ha _ h,q.mono e⟩
 |ins c fs=>obtain⟨dx,fv,h,q⟩:=h;exact⟨dx,fv,ha _ h,q.mono e⟩
 |dct ks=>obtain⟨kv,h,q⟩:=h;exact⟨kv,ha _ h,q.mono e⟩
 |exc x=>obtain⟨dd,h,q⟩:=h;exact⟨dd,ha _ h,q.mono e.xd⟩
theorem GRep.new{g:G}{p:Addr}{o:HO}(r:GRep K ca μ H g)(hp:H p=none):GRep K ca μ (upd H p o) g :=
 ⟨r.len,r.nd,λn a u h1 h2=>(r.obj n a u h1 h2).mono (QD hp) λz hz=>by rw[Qh (Qx hz hp)];exact hz⟩
theorem QA{p:Addr}{o:HO}(hp:H p=none):Ext K μ H (μ++[p]) (upd H p o):=⟨⟨[p],rfl⟩,(QD (μ:=μ) hp).tup,(QD (μ:=μ) hp).fl,(QD (K:=K) (μ:=μ) hp).xd⟩
theorem GRep.push{g:G}{p:Addr}{o:HO}{u:GO}(r:GRep K ca μ H g)(hp:H p=none)(ho:ORep K ca (μ++[p]) (upd H p o) p u):GRep K ca (μ++[p]) (upd H p o) (g++[u]):=by
 have nm:p∉μ:=λh=>by
  obtain⟨z,hz⟩:=r.known h
  rw[hp]at hz;cases hz
 refine⟨by rw[UD,UD,r.len];rfl,?_,λn a w h1 h2=>?_⟩
 ·rw[List.nodup_append]
  exact⟨r.nd,by simp,λx hx y hy e=>nm (by rw[Ug.mp hy]at e;rw[<-e];exact hx)⟩
 ·by_cases hn:n<g.length
  ·rw[UE hn]at h2
   rw[UE (by rw[r.len];exact hn)]at h1
   exact(r.obj n a w h1 h2).mono (QA hp) λz hz=>by rw[Qh (Qx hz hp)];exact hz
  ·rw[UH (by omega)]at h2
   rw[UH (by rw[r.len];omega)]at h1
   have e0:n-g.length=0:=by
    have:=(Ui.mp h2).1
    simp at this;omega
   rw[e0]at h2
   rw[r.len,e0]at h1
   simp at h1 h2
   subst h1 h2
   exact ho
theorem JI{a:Addr}{o o':HO}(h:H a=some o)(no:∀xs,o≠.tup xs)(nf:∀b u,o≠.frz b u)(nx:∀fs,o≠.xd fs:=by intro _ z;cases z):Ext K μ H μ (upd H a o'):=⟨⟨[],by simp⟩,λb xs hb=>by
 rcases hb with(z|⟨u,z⟩)|z
 ·exact .inl (.inl (by rw[Qh (QdI z h (Ne.symm (no xs)))];exact z))
 ·exact .inl (.inr ⟨u,by rw[Qh (QdI z h (Ne.symm (nf u _)))];exact z⟩)
 ·exact .inr z,λb xs hb=>by
 rcases hb with⟨u,z⟩|z
 ·exact .inl ⟨u,by rw[Qh (QdI z h (Ne.symm (nf u _)))];exact z⟩
 ·exact .inr z,λb fs z=>by rw[Qh (QdI z h (Ne.symm (nx fs)))];exact z⟩
theorem GRep.set{g:G}{n:Nat}{a:Addr}{o o':HO}{u:GO}(r:GRep K ca μ H g)(hn:μ[n]?=some a)(h:H a=some o)(no:∀xs,o≠.tup xs)(nf:∀b u,o≠.frz b u)(ho:ORep K ca μ (upd H a o') a u)(nx:∀fs,o≠.xd fs:=by intro _ z;cases z):
  GRep K ca μ (upd H a o') (g.set n u):=by
 refine⟨by rw[UR,r.len],r.nd,λm b w h1 h2=>?_⟩
 by_cases e:m=n
 ·subst e
  rw[hn]at h1;cases h1
  have hl:m<g.length:=by
   rw[<-r.len];exact(Ui.mp hn).1
  rw[U0 hl]at h2;cases h2
  exact ho
 ·rw[Uy (Ne.symm e)]at h2
  have nb:b≠a:=λz=>by
   subst z
   have e1:=(Ui.mp h1)
   have e2:=(Ui.mp hn)
   obtain⟨l1,q1⟩:=e1
   obtain⟨l2,q2⟩:=e2
   exact e ((Wq r.nd).mp (q1.trans q2.symm))
  exact(r.obj m b w h1 h2).mono (JI h no nf nx) λz hz=>by rw[Qh nb];exact hz
noncomputable abbrev XS:=Xc->L2.St->Hp->Prop
noncomputable def FpW(X:Cx)(pins:List (Addr×Obj))(H:Hp)(b:Addr):Prop :=
 H b=none/\b≠X.env.locals/\b∉X.fs/\(b∈X.ex\/X.s₀.heap.get? b=none)/\(∀x c,X.env.cells.lookup x=some c->c≠b)/\∀p∈X.pn++pins,p.1≠b
structure Fl(X:Cx)(ca:Nat->Addr)(a:Addr)(x:Xc)(H:Hp)(h:Heap):Prop where
 fp:FpW X [] H a
 ln:True
 ex:∃oe vs,h.get? a=some oe/\XOb ca H x oe/\oe.data=.fields vs/\1<vs.size /\
  (vs[1]?=some .none\/∃T oT ts,vs[1]?=some (.ref T)/\T≠a/\FpW X [] H T/\h.get? T=some oT/\oT.data=.fields ts/\3<ts.size/\(ts[3]?=some .none\/ts[3]?=some (rawInt X.env.locals)))
noncomputable def XE(X:Cx)(ca:Nat->Addr)(Φ:XS):Value->Shared->Prop:=λv s=>∃a x σ H,v=.ref a/\Inv X [] σ H s/\Fl X ca a x H s.heap/\Φ x σ H
noncomputable abbrev xon(X:Cx)(pn:List (Addr×Obj)):Cx:={X with pn:=pn,xe:=λ_ _=>False}
noncomputable abbrev xat(X:Cx)(ca:Nat->Addr)(pn:List (Addr×Obj))(Φ:XS):Cx:={X with pn:=pn,xe:=XE (xon X pn) ca Φ}
def RaP(K:Frag)(ca:Nat->Addr)(Φ:XS)(σ:L2.St)(H:Hp)(μ:List Addr)(x:Xc)(g':G):Prop:=∀H' μ',Ext K μ H μ' H'->GRep K ca μ' H' g'->Φ x σ H'
noncomputable def Post(K:Frag)(ca:Nat->Addr)(Φ:XS)(σ:L2.St)(Q:VK)(H:Hp)(μ:List Addr):Res D->Prop
 |.ok d g'=>∀v H' μ',Ext K μ H μ' H'->GRep K ca μ' H' g'->Den K μ' H' v d->Q v H'
 |.raise x g'=>RaP K ca Φ σ H μ x g'
 |.stuck=>False
noncomputable def PostT(K:Frag)(ca:Nat->Addr)(Φ:XS)(σ:L2.St)(Q:Bool->Hp->Prop)(H:Hp)(μ:List Addr):Res Bool->Prop
 |.ok b g'=>∀H' μ',Ext K μ H μ' H'->GRep K ca μ' H' g'->Q b H'
 |.raise x g'=>RaP K ca Φ σ H μ x g'
 |.stuck=>False
noncomputable def PostA(K:Frag)(ca:Nat->Addr)(Φ:XS)(σ:L2.St)(Q:List V->Hp->Prop)(H:Hp)(μ:List Addr):Res (List D)->Prop
 |.ok ds g'=>∀vs H' μ',Ext K μ H μ' H'->GRep K ca μ' H' g'->Dens K μ' H' vs ds->Q vs H'
 |.raise x g'=>RaP K ca Φ σ H μ x g'
 |.stuck=>False
noncomputable def PostS(K:Frag)(ca:Nat->Addr)(Φ:XS)(E:Ends)(H:Hp)(μ:List Addr):Out->Prop
 |.nx σ3 g'=>∀σ' H' μ',Ext K μ H μ' H'->Rep K ca μ' σ3 g' σ' H'->E.nx σ' H'
 |.bk σ3 g'=>∀σ' H' μ',Ext K μ H μ' H'->Rep K ca μ' σ3 g' σ' H'->E.bk σ' H'
 |.ct σ3 g'=>∀σ' H' μ',Ext K μ H μ' H'->Rep K ca μ' σ3 g' σ' H'->E.ct σ' H'
 |.rt d g'=>∀v H' μ',Ext K μ H μ' H'->GRep K ca μ' H' g'->Den K μ' H' v d->E.rt v H'
 |.raise x σ3 g'=>∀σ' H' μ',Ext K μ H μ' H'->Rep K ca μ' σ3 g' σ' H'->Φ x σ' H'
 |.stuck=>False
noncomputable def up(K:Frag)(ca:Nat->Addr)(Φ:XS)(m:ME):TE:=λσ H Q=>∃σ3 g μ,Rep K ca μ σ3 g σ H/\Post K ca Φ σ Q H μ (m σ3 g)
noncomputable def upT(K:Frag)(ca:Nat->Addr)(Φ:XS)(m:MT):TT:=λσ H Q=>∃σ3 g μ,Rep K ca μ σ3 g σ H/\PostT K ca Φ σ Q H μ (m σ3 g)
noncomputable def upA(K:Frag)(ca:Nat->Addr)(Φ:XS)(m:MA):TA:=λσ H Q=>∃σ3 g μ,Rep K ca μ σ3 g σ H/\PostA K ca Φ σ Q H μ (m σ3 g)
noncomputable def upS(K:Frag)(ca:Nat->Addr)(Φ:XS)(m:MS):TS:=λE σ H=>∃σ3 g μ,Rep K ca μ σ3 g σ H/\PostS K ca Φ E H μ (m σ3 g)
def PE3(ca:Nat->Addr)(X:Cx)(e:Expr)(m:ME):Prop:=∀pn Φ,PE (xat X ca pn Φ) e (up X.K ca Φ m)
def PT3(ca:Nat->Addr)(X:Cx)(e:Expr)(m:MT):Prop:=∀pn Φ,PT (xat X ca pn Φ) e (upT X.K ca Φ m)
def PW3(ca:Nat->Addr)(X:Cx)(e:Expr)(m:MT):Prop:=∀pn Φ,PW (xat X ca pn Φ) e (upT X.K ca Φ m)
def PA3(ca:Nat->Addr)(X:Cx)(es:List Expr)(m:MA):Prop:=∀pn Φ,PA (xat X ca pn Φ) es (upA X.K ca Φ m)
def PS3(ca:Nat->Addr)(X:Cx)(st:Stmt)(m:MS):Prop:=∀pn Φ,PS (xat X ca pn Φ) st (upS X.K ca Φ m)
def PSs3(ca:Nat->Addr)(X:Cx)(sts:List Stmt)(m:MS):Prop:=∀pn Φ,PSs (xat X ca pn Φ) sts (upS X.K ca Φ m)
variable{Φ:XS}{σ:L2.St}
theorem RaP.go{x:Xc}{g':G}(e:Ext K μ H μ' H')(h:RaP K ca Φ σ H μ x g'):RaP K ca Φ σ H' μ' x g':=λH2 μ2 e2=>h H2 μ2 (e.trans e2)
theorem Post.go{Q:VK}{r:Res D}(e:Ext K μ H μ' H')(h:Post K ca Φ σ Q H μ r):Post K ca Φ σ Q H' μ' r:=by
 cases r with
 |ok d g'=>exact λv H2 μ2 e2=>h v H2 μ2 (e.trans e2)
 |raise _ _=>exact RaP.go e h
 |stuck=>exact h
theorem PostT.go{Q:Bool->Hp->Prop}{r:Res Bool}(e:Ext K μ H μ' H')(h:PostT K ca Φ σ Q H μ r):PostT K ca Φ σ Q H' μ' r:=by
 cases r with
 |ok d g'=>exact λH2 μ2 e2=>h H2 μ2 (e.trans e2)
 |raise _ _=>exact RaP.go e h
 |stuck=>exact h
theorem PostA.go{Q:List V->Hp->Prop}{r:Res (List D)}(e:Ext K μ H μ' H')(h:PostA K ca Φ σ Q H μ r):PostA K ca Φ σ Q H' μ' r:=by
 cases r with
 |ok d g'=>exact λv H2 μ2 e2=>h v H2 μ2 (e.trans e2)
 |raise _ _=>exact RaP.go e h
 |stuck=>exact h
theorem PostS.go{E:Ends}{r:Out}(e:Ext K μ H μ' H')(h:PostS K ca Φ E H μ r):PostS K ca Φ E H' μ' r:=by
 cases r with
 |nx _ _=>exact λv H2 μ2 e2=>h v H2 μ2 (e.trans e2)
 |bk _ _=>exact λv H2 μ2 e2=>h v H2 μ2 (e.trans e2)
 |ct _ _=>exact λv H2 μ2 e2=>h v H2 μ2 (e.trans e2)
 |rt _ _=>exact λv H2 μ2 e2=>h v H2 μ2 (e.trans e2)
 |raise _ _ _=>exact λv H2 μ2 e2=>h v H2 μ2 (e.trans e2)
 |stuck=>exact h
theorem Post.pure{Q:VK}{g:G}{v:V}{d:D}(h:Post K ca Φ σ Q H μ (.ok d g))(r:GRep K ca μ H g)(q:Den K μ H v d):Q v H:=h v H μ .refl r q
theorem RaP.stmt{x:Xc}{σ3:S3}{g g':G}{E:Ends}(R:Rep K ca μ σ3 g σ H)(h:PostS K ca Φ E H μ (.raise x σ3 g')):RaP K ca Φ σ H μ x g':=λH' μ' e r=>h σ H' μ' e (R.go e r)
theorem Qb3{m:ME}{α:Type}{k:D->G->Res α}{σ3:S3}{g:G}(R:Rep K ca μ σ3 g σ H){P:Res α->Hp->List Addr->Prop}(hp:P ((m σ3 g).bind k) H μ)(hst:∀H μ,¬P .stuck H μ)(hra:∀e g H μ,P (.raise e g) H μ->RaP K ca Φ σ H μ e g)(hgo:∀r H μ H' μ',Ext K μ H μ' H'->P r H μ->P r H' μ'):
  up K ca Φ m σ H λx H1=>∃d g1 μ1,Ext K μ H μ1 H1/\Rep K ca μ1 σ3 g1 σ H1/\Den K μ1 H1 x d/\P (k d g1) H1 μ1:=by
 refine⟨σ3,g,μ,R,?_⟩
 cases hm:m σ3 g with
 |ok d g1 =>
  rw[hm]at hp
  exact λv H1 μ1 e1 r1 d1=>⟨d,g1,μ1,e1,R.go e1 r1,d1,hgo _ _ _ _ _ e1 hp⟩
 |raise e g1=>rw[hm]at hp;exact hra _ _ _ _ hp
 |stuck=>rw[hm]at hp;exact(hst _ _ hp).elim
theorem Yc{m:ME}{k:D->G->Res D}{σ3:S3}{g:G}{Q:VK}(R:Rep K ca μ σ3 g σ H)(hp:Post K ca Φ σ Q H μ ((m σ3 g).bind k)):
  up K ca Φ m σ H λx H1=>∃d g1 μ1,Ext K μ H μ1 H1/\Rep K ca μ1 σ3 g1 σ H1/\Den K μ1 H1 x d/\Post K ca Φ σ Q H1 μ1 (k d g1) :=
 Qb3 (P:=λr H μ=>Post K ca Φ σ Q H μ r) R hp (λ_ _ h=>h) (λ_ _ _ _ h=>h) λ_ _ _ _ _ e h=>h.go e
theorem Qir{m:ME}{k:D->G->Res Bool}{σ3:S3}{g:G}{Q:Bool->Hp->Prop}(R:Rep K ca μ σ3 g σ H)(hp:PostT K ca Φ σ Q H μ ((m σ3 g).bind k)):
  up K ca Φ m σ H λx H1=>∃d g1 μ1,Ext K μ H μ1 H1/\Rep K ca μ1 σ3 g1 σ H1/\Den K μ1 H1 x d/\PostT K ca Φ σ Q H1 μ1 (k d g1) :=
 Qb3 (P:=λr H μ=>PostT K ca Φ σ Q H μ r) R hp (λ_ _ h=>h) (λ_ _ _ _ h=>h) λ_ _ _ _ _ e h=>h.go e
theorem QjB{m:ME}{k:D->G->Res (List D)}{σ3:S3}{g:G}{Q:List V->Hp->Prop}(R:Rep K ca μ σ3 g σ H)(hp:PostA K ca Φ σ Q H μ ((m σ3 g).bind k)):
  up K ca Φ m σ H λx H1=>∃d g1 μ1,Ext K μ H μ1 H1/\Rep K ca μ1 σ3 g1 σ H1/\Den K μ1 H1 x d/\PostA K ca Φ σ Q H1 μ1 (k d g1) :=
 Qb3 (P:=λr H μ=>PostA K ca Φ σ Q H μ r) R hp (λ_ _ h=>h) (λ_ _ _ _ h=>h) λ_ _ _ _ _ e h=>h.go e
theorem QcB{m:MT}{α:Type}{k:Bool->G->Res α}{σ3:S3}{g:G}(R:Rep K ca μ σ3 g σ H){P:Res α->Hp->List Addr->Prop}(hp:P ((m σ3 g).bind k) H μ)(hst:∀H μ,¬P .stuck H μ)(hra:∀e g H μ,P (.raise e g) H μ->RaP K ca Φ σ H μ e g)(hgo:∀r H μ H' μ',Ext K μ H μ' H'->P r H μ->P r H' μ'):
  upT K ca Φ m σ H λb H1=>∃g1 μ1,Ext K μ H μ1 H1/\Rep K ca μ1 σ3 g1 σ H1/\P (k b g1) H1 μ1:=by
 refine⟨σ3,g,μ,R,?_⟩
 cases hm:m σ3 g with
 |ok d g1 =>
  rw[hm]at hp
  exact λH1 μ1 e1 r1=>⟨g1,μ1,e1,R.go e1 r1,hgo _ _ _ _ _ e1 hp⟩
 |raise e g1=>rw[hm]at hp;exact hra _ _ _ _ hp
 |stuck=>rw[hm]at hp;exact(hst _ _ hp).elim
theorem Qis{m:MT}{k:Bool->G->Res D}{σ3:S3}{g:G}{Q:VK}(R:Rep K ca μ σ3 g σ H)(hp:Post K ca Φ σ Q H μ ((m σ3 g).bind k)):
  upT K ca Φ m σ H λb H1=>∃g1 μ1,Ext K μ H μ1 H1/\Rep K ca μ1 σ3 g1 σ H1/\Post K ca Φ σ Q H1 μ1 (k b g1) :=
 QcB (P:=λr H μ=>Post K ca Φ σ Q H μ r) R hp (λ_ _ h=>h) (λ_ _ _ _ h=>h) λ_ _ _ _ _ e h=>h.go e
theorem Qd9{m:MT}{k:Bool->G->Res Bool}{σ3:S3}{g:G}{Q:Bool->Hp->Prop}(R:Rep K ca μ σ3 g σ H)(hp:PostT K ca Φ σ Q H μ ((m σ3 g).bind k)):
  upT K ca Φ m σ H λb H1=>∃g1 μ1,Ext K μ H μ1 H1/\Rep K ca μ1 σ3 g1 σ H1/\PostT K ca Φ σ Q H1 μ1 (k b g1) :=
 QcB (P:=λr H μ=>PostT K ca Φ σ Q H μ r) R hp (λ_ _ h=>h) (λ_ _ _ _ h=>h) λ_ _ _ _ _ e h=>h.go e
theorem QcC{m:MA}{α:Type}{k:List D->G->Res α}{σ3:S3}{g:G}(R:Rep K ca μ σ3 g σ H){P:Res α->Hp->List Addr->Prop}(hp:P ((m σ3 g).bind k) H μ)(hst:∀H μ,¬P .stuck H μ)(hra:∀e g H μ,P (.raise e g) H μ->RaP K ca Φ σ H μ e g)(hgo:∀r H μ H' μ',Ext K μ H μ' H'->P r H μ->P r H' μ'):
  upA K ca Φ m σ H λxs H1=>∃ds g1 μ1,Ext K μ H μ1 H1/\Rep K ca μ1 σ3 g1 σ H1/\Dens K μ1 H1 xs ds/\P (k ds g1) H1 μ1:=by
 refine⟨σ3,g,μ,R,?_⟩
 cases hm:m σ3 g with
 |ok d g1 =>
  rw[hm]at hp
  exact λv H1 μ1 e1 r1 d1=>⟨d,g1,μ1,e1,R.go e1 r1,d1,hgo _ _ _ _ _ e1 hp⟩
 |raise e g1=>rw[hm]at hp;exact hra _ _ _ _ hp
 |stuck=>rw[hm]at hp;exact(hst _ _ hp).elim
theorem QcD{m:MA}{k:List D->G->Res D}{σ3:S3}{g:G}{Q:VK}(R:Rep K ca μ σ3 g σ H)(hp:Post K ca Φ σ Q H μ ((m σ3 g).bind k)):
  upA K ca Φ m σ H λxs H1=>∃ds g1 μ1,Ext K μ H μ1 H1/\Rep K ca μ1 σ3 g1 σ H1/\Dens K μ1 H1 xs ds/\Post K ca Φ σ Q H1 μ1 (k ds g1) :=
 QcC (P:=λr H μ=>Post K ca Φ σ Q H μ r) R hp (λ_ _ h=>h) (λ_ _ _ _ h=>h) λ_ _ _ _ _ e h=>h.go e
theorem Qit{m:MA}{k:List D->G->Res (List D)}{σ3:S3}{g:G}{Q:List V->Hp->Prop}(R:Rep K ca μ σ3 g σ H)(hp:PostA K ca Φ σ Q H μ ((m σ3 g).bind k)):
  upA K ca Φ m σ H λxs H1=>∃ds g1 μ1,Ext K μ H μ1 H1/\Rep K ca μ1 σ3 g1 σ H1/\Dens K μ1 H1 xs ds/\PostA K ca Φ σ Q H1 μ1 (k ds g1) :=
 QcC (P:=λr H μ=>PostA K ca Φ σ Q H μ r) R hp (λ_ _ h=>h) (λ_ _ _ _ h=>h) λ_ _ _ _ _ e h=>h.go e
theorem QJ{m:ME}{Q Q':VK}(h:up K ca Φ m σ H Q)(i:∀x H1,Q x H1->Q' x H1):up K ca Φ m σ H Q':=by
 obtain⟨σ3,g,μ,R,p⟩:=h
 refine⟨σ3,g,μ,R,?_⟩
 cases hm:m σ3 g with
 |ok d g1=>rw[hm]at p;exact λv H1 μ1 e r q=>i _ _ (p v H1 μ1 e r q)
 |raise e g1=>rw[hm]at p;exact p
 |stuck=>rw[hm]at p;exact p
theorem Ju{m:MT}{Q Q':Bool->Hp->Prop}(h:upT K ca Φ m σ H Q)(i:∀x H1,Q x H1->Q' x H1):upT K ca Φ m σ H Q':=by
 obtain⟨σ3,g,μ,R,p⟩:=h
 refine⟨σ3,g,μ,R,?_⟩
 cases hm:m σ3 g with
 |ok d g1=>rw[hm]at p;exact λH1 μ1 e r=>i _ _ (p H1 μ1 e r)
 |raise e g1=>rw[hm]at p;exact p
 |stuck=>rw[hm]at p;exact p
theorem YR{m:MA}{Q Q':List V->Hp->Prop}(h:upA K ca Φ m σ H Q)(i:∀x H1,Q x H1->Q' x H1):upA K ca Φ m σ H Q':=by
 obtain⟨σ3,g,μ,R,p⟩:=h
 refine⟨σ3,g,μ,R,?_⟩
 cases hm:m σ3 g with
 |ok d g1=>rw[hm]at p;exact λv H1 μ1 e r q=>i _ _ (p v H1 μ1 e r q)
 |raise e g1=>rw[hm]at p;exact p
 |stuck=>rw[hm]at p;exact p
end
theorem QS{X:Cx}{e:Expr}{t t':TE}(h:PE X e t)(i:∀σ H Q,t' σ H Q->t σ H Q):PE X e t':=λpins s σ H Q I q=>h pins s σ H Q I (i σ H Q q)
theorem Qb4{X:Cx}{e:Expr}{t t':TT}(h:PT X e t)(i:∀σ H Q,t' σ H Q->t σ H Q):PT X e t':=λpins s σ H Q I q=>h pins s σ H Q I (i σ H Q q)
theorem Qea{X:Cx}{e:Expr}{t t':TT}(h:PW X e t)(i:∀σ H Q,t' σ H Q->t σ H Q):PW X e t':=λw pins s σ H Q I q=>h w pins s σ H Q I (i σ H Q q)
theorem Qeb{X:Cx}{e:List Expr}{t t':TA}(h:PA X e t)(i:∀σ H Q,t' σ H Q->t σ H Q):PA X e t':=λp pins s σ H Q I q=>h p pins s σ H Q I (i σ H Q q)
theorem Yh{X:Cx}{e:Stmt}{t t':TS}(h:PS X e t)(i:∀D σ H,t' D σ H->t D σ H):PS X e t':=λpins s σ H D I q=>h pins s σ H D I (i D σ H q)
theorem QcE{X:Cx}{e:List Stmt}{t t':TS}(h:PSs X e t)(i:∀D σ H,t' D σ H->t D σ H):PSs X e t':=λpins s σ H D I q=>h pins s σ H D I (i D σ H q)
section
variable{X:Cx}{ca:Nat->Addr}{a b c e:Expr}{es rest:List Expr}{ma mb me:ME}{tc ta tb:MT}{mr:MA}{pos:Pos}
theorem Qb(i:Nat){x:Str}(hN:X.N[i]?=some x:=by rfl)(hv:Vis X.env.scope x:=by first|exact Or.inl rfl|exact Or.inr (Or.inl rfl)|exact Or.inr (Or.inr rfl))(hd:(x == ("__debug__" : Str))=false:=by decide)(hcd:(x == ("__classdict__" : Str))=false:=by decide):PE3 ca X (.Name x pos) (mVar i) :=
 λpn Φ=>QS (Qct (X:=xat X ca pn Φ) hN hv hd hcd) λσ H Q hQ=>by
  obtain⟨σ3,g,μ,R,p⟩:=hQ
  unfold mVar at p
  cases e:σ3[i]? with
  |none=>rw[e]at p;exact p.elim
  |some o =>
   cases o with
   |none=>rw[e]at p;exact p.elim
   |some d =>
    rw[e]at p
    obtain⟨v,h1,h2⟩:=R.st i d e
    exact⟨v,h1,p v H μ .refl R.g h2⟩
theorem Qec{v:V}{d:D}(h:∀pn Φ,PE (xat X ca pn Φ) e (tC v))(hd:∀K μ H,Den K μ H v d):PE3 ca X e (mLit d) :=
 λpn Φ=>QS (h pn Φ) λ_ H _ ⟨_,_,μ,R,p⟩=>p v H μ .refl R.g (hd _ _ _)
theorem Qi{i:Int}{j:Nat}:PE3 ca X (.Constant (.int i) j pos) (mLit (.int i)):=Qec (λ_ _=>QhW) λ_ _ _=>.int i
theorem Qr{x:Str}{j:Nat}:PE3 ca X (.Constant (.str x) j pos) (mLit (.str x)):=Qec (λ_ _=>Qgl) λ_ _ _=>.str x
theorem r_bl{x:Bool}{j:Nat}:PE3 ca X (.Constant (.bool x) j pos) (mLit (.bl x)):=Qec (λ_ _=>Qjl) λ_ _ _=>.bl x
theorem Qb5{j:Nat}:PE3 ca X (.Constant .none j pos) (mLit .non):=Qec (λ_ _=>QhX) λ_ _ _=>.non
theorem Qgr{x:Str}{v:V}{u:Value}{d:D}(hm:X.mg x=some u)(r:RelV v u)(hd':∀K μ H,Den K μ H v d)(hg:Gl X x:=by rfl)(hd:(x == ("__debug__" : Str))=false:=by decide):PE3 ca X (.Name x pos) (mLit d) :=
 Qec (λpn Φ=>JB (X:=xat X ca pn Φ) hg hm r hd) hd'
noncomputable def Yd(K:Frag)(ca:Nat->Addr)(r:R2)(f:D->D->G->Res D):Prop :=
 ∀(Φ:XS)(σ:L2.St)(H:Hp)(μ:List Addr)(g:G)(x y:V)(dx dy:D)(Q:VK),GRep K ca μ H g->Den K μ H x dx->Den K μ H y dy->Post K ca Φ σ Q H μ (f dx dy g)->r x y H Q
theorem QcF{K:Frag}{Φ:XS}{r:R2}{f:D->D->G->Res D}(hp:Yd K ca r f)(σ:L2.St)(H:Hp)(Q:VK)(h:up K ca Φ (mOp2 f ma mb) σ H Q):tOp r (up K ca Φ ma) (up K ca Φ mb) σ H Q:=by
 obtain⟨σ3,g,μ,R,p⟩:=h
 refine QJ (Yc R p) λx H1 ⟨dx,g1,μ1,e1,R1,q1,p1⟩=>?_
 refine QJ (Yc R1 p1) λy H2 ⟨dy,g2,μ2,e2,R2,q2,p2⟩=>?_
 exact hp Φ σ H2 μ2 g2 x y dx dy Q R2.g (q1.mono e2) q2 p2
theorem Qdj{op:Operator}{r:R2}{f:D->D->G->Res D}(ho:∀pn Φ,OpR (xat X ca pn Φ) (binaryOp op) r)(hp:Yd X.K ca r f)(ha:PE3 ca X a ma)(hb:PE3 ca X b mb):PE3 ca X (.BinOp a op b pos) (mOp2 f ma mb) :=
 λpn Φ=>QS (Qju (ho pn Φ) (ha pn Φ) (hb pn Φ)) (QcF hp)
theorem Qdk{op:CmpOp}{r:R2}{f:D->D->G->Res D}(ho:∀pn Φ,OpR (xat X ca pn Φ) (compareOp op) r)(hp:Yd X.K ca r f)(ha:PE3 ca X a ma)(hb:PE3 ca X b mb)(hm:behindInMarks op b=false):PE3 ca X (.Compare a [op] [b] pos) (mOp2 f ma mb) :=
 λpn Φ=>QS (QgS (ho pn Φ) (ha pn Φ) (hb pn Φ) hm) (QcF hp)
theorem r_ix{r:R2}{f:D->D->G->Res D}(ho:∀pn Φ,IxR (xat X ca pn Φ) r)(hp:Yd X.K ca r f)(ha:PE3 ca X a ma)(hb:PE3 ca X b mb)(hs:Qb1 b:=by exact λ_ _=>rfl):PE3 ca X (.Subscript a b pos) (mOp2 f ma mb) :=
 λpn Φ=>QS (Qjy (ho pn Φ) (ha pn Φ) (hb pn Φ) hs) (QcF hp)
theorem Qp:PA3 ca X [] mNil:=λpn Φ=>Qeb (YN (X:=xat X ca pn Φ)) λ_ H _ ⟨_,_,μ,R,p⟩=>p [] H μ .refl R.g .nil
theorem ZY(ha:PE3 ca X e me)(hr:PA3 ca X es mr)(hs:starEach (e::es) X.env=(false,eval e X.env)::starEach es X.env:=by rfl):PA3 ca X (e::es) (Qa me mr) :=
 λpn Φ=>Qeb (Q6 (X:=xat X ca pn Φ) (ha pn Φ) (hr pn Φ) hs) λσ H Q ⟨σ3,g,μ,R,p⟩=>QJ (QjB R p) λx H1 ⟨d,g1,μ1,e1,R1,q1,p1⟩ =>
  YR (Qit R1 p1) λxs H2 ⟨ds,g2,μ2,e2,R2,q2,p2⟩=>p2 (x::xs) H2 μ2 .refl R2.g (.cons (q1.mono e2) q2)
theorem QF(ha:PE3 ca X a ma)(he:∀whole,isTrue a X.env whole=(do let v <-whole;standAt a.pos;holding [v] (truthy v)):=by intro _;rfl):PT3 ca X a (Qk ma) :=
 λpn Φ=>Qb4 (QhY (X:=xat X ca pn Φ) (ha pn Φ) he) λσ H Q ⟨σ3,g,μ,R,p⟩=>QJ (Qir R p) λx H1 hQ=>by
  obtain⟨d,g1,μ1,e1,R1,q1,p1⟩:=hQ
  cases q1 with
  |bl b=>exact⟨b,rfl,p1 H1 μ1 .refl R1.g⟩
  |_=>exact p1.elim
theorem JJ{op:CmpOp}{r:R2}{f:D->D->G->Res D}(ho:∀pn Φ,OpR (xat X ca pn Φ) (compareOp op) r)(hp:Yd X.K ca r f)(ha:PE3 ca X a ma)(hb:PE3 ca X b mb)(hm:behindInMarks op b=false):PT3 ca X (.Compare a [op] [b] pos) (Qk (mOp2 f ma mb)) :=
 λpn Φ=>Qb4 (QgT (ho pn Φ) (ha pn Φ) (hb pn Φ) hm) λσ H Q hQ=>by
  obtain⟨σ3,g,μ,R,p⟩:=hQ
  have q:up X.K ca Φ (mOp2 f ma mb) σ H λx H'=>∃k,x=.bl k/\Q k H':=QJ (Qir R p) λx H1 hQ=>by
   obtain⟨d,g1,μ1,e1,R1,q1,p1⟩:=hQ
   cases q1 with
   |bl b=>exact⟨b,rfl,p1 H1 μ1 .refl R1.g⟩
   |_=>exact p1.elim
  exact QcF hp σ H _ q
theorem ZG(ha:PT3 ca X a ta):PT3 ca X (.UnaryOp .Not a pos) (Zl ta) :=
 λpn Φ=>Qb4 (Qh1 (X:=xat X ca pn Φ) (ha pn Φ)) λσ H Q ⟨σ3,g,μ,R,p⟩=>Ju (Qd9 R p) λb H1 ⟨g1,μ1,e1,R1,p1⟩=>p1 H1 μ1 .refl R1.g
theorem YE(ha:PT3 ca X a ta):PW3 ca X (.BoolOp .And [a] pos) ta:=λpn Φ=>QgM (X:=xat X ca pn Φ) (ha pn Φ)
theorem JK(ha:PT3 ca X a ta):PW3 ca X (.BoolOp .Or [a] pos) ta:=λpn Φ=>QhZ (X:=xat X ca pn Φ) (ha pn Φ)
theorem YS(ha:PT3 ca X a ta)(hb:PW3 ca X (.BoolOp .And (b::rest) pos) tb):PW3 ca X (.BoolOp .And (a::b::rest) pos) (ZC ta tb) :=
 λpn Φ=>Qea (Qh0 (X:=xat X ca pn Φ) (ha pn Φ) (hb pn Φ)) λσ H Q ⟨σ3,g,μ,R,p⟩=>Ju (Qd9 R p) λb H1 hQ=>by
  obtain⟨g1,μ1,e1,R1,p1⟩:=hQ
  cases b with
  |true=>rw[Uf rfl]at p1 ⊢;exact⟨σ3,g1,μ1,R1,p1⟩
  |false=>rw[Uh Ud]at p1 ⊢;exact p1 H1 μ1 .refl R1.g
theorem Qb6(ha:PT3 ca X a ta)(hb:PW3 ca X (.BoolOp .Or (b::rest) pos) tb):PW3 ca X (.BoolOp .Or (a::b::rest) pos) (mOrT ta tb) :=
 λpn Φ=>Qea (Qjm (X:=xat X ca pn Φ) (ha pn Φ) (hb pn Φ)) λσ H Q ⟨σ3,g,μ,R,p⟩=>Ju (Qd9 R p) λb H1 hQ=>by
  obtain⟨g1,μ1,e1,R1,p1⟩:=hQ
  cases b with
  |true=>rw[Uf rfl]at p1 ⊢;exact p1 H1 μ1 .refl R1.g
  |false=>rw[Uh Ud]at p1 ⊢;exact⟨σ3,g1,μ1,R1,p1⟩
theorem r_w(h:PW3 ca X e ta):PT3 ca X e ta:=λpn Φ=>(h pn Φ).pt
theorem Qiu(ha:PE3 ca X a ma):PE3 ca X (.UnaryOp .Not a pos) (mNot ma) :=
 λpn Φ=>QS (Qh4 (X:=xat X ca pn Φ) (ha pn Φ)) λσ H Q ⟨σ3,g,μ,R,p⟩=>QJ (Yc R p) λx H1 hQ=>by
  obtain⟨d,g1,μ1,e1,R1,q1,p1⟩:=hQ
  cases q1 with
  |bl b=>exact⟨b,rfl,p1 _ H1 μ1 .refl R1.g (.bl _)⟩
  |_=>exact p1.elim
theorem QaG{op:BoolOp}(ha:PE3 ca X a ma):PE3 ca X (.BoolOp op [a] pos) ma:=λpn Φ=>Qh2 (X:=xat X ca pn Φ) (ha pn Φ)
theorem QaH(ha:PE3 ca X a ma)(hb:PE3 ca X (.BoolOp .And (b::rest) pos) mb):PE3 ca X (.BoolOp .And (a::b::rest) pos) (mAnd ma mb) :=
 λpn Φ=>QS (Qh3 (X:=xat X ca pn Φ) (ha pn Φ) (hb pn Φ)) λσ H Q ⟨σ3,g,μ,R,p⟩=>QJ (Yc R p) λx H1 hQ=>by
  obtain⟨d,g1,μ1,e1,R1,q1,p1⟩:=hQ
  cases q1 with
  |bl b =>
   refine⟨b,rfl,?_⟩
   cases b with
   |true=>rw[Uf rfl];exact⟨σ3,g1,μ1,R1,p1⟩
   |false=>rw[Uh Ud];exact p1 _ H1 μ1 .refl R1.g (.bl _)
  |_=>exact p1.elim
theorem r_or(ha:PE3 ca X a ma)(hb:PE3 ca X (.BoolOp .Or (b::rest) pos) mb):PE3 ca X (.BoolOp .Or (a::b::rest) pos) (mOr ma mb) :=
 λpn Φ=>QS (Qjp (X:=xat X ca pn Φ) (ha pn Φ) (hb pn Φ)) λσ H Q ⟨σ3,g,μ,R,p⟩=>QJ (Yc R p) λx H1 hQ=>by
  obtain⟨d,g1,μ1,e1,R1,q1,p1⟩:=hQ
  cases q1 with
  |bl b =>
   refine⟨b,rfl,?_⟩
   cases b with
   |true=>rw[Uf rfl];exact p1 _ H1 μ1 .refl R1.g (.bl _)
   |false=>rw[Uh Ud];exact⟨σ3,g1,μ1,R1,p1⟩
  |_=>exact p1.elim
theorem QjC(hc:PT3 ca X c tc)(ha:PE3 ca X a ma)(hb:PE3 ca X b mb):PE3 ca X (.IfExp c a b pos) (mIfE tc ma mb) :=
 λpn Φ=>QS (Qfr (X:=xat X ca pn Φ) (hc pn Φ) (ha pn Φ) (hb pn Φ)) λσ H Q ⟨σ3,g,μ,R,p⟩=>Ju (Qis R p) λb H1 hQ=>by
  obtain⟨g1,μ1,e1,R1,p1⟩:=hQ
  cases b with
  |true=>rw[Uf rfl]at p1 ⊢;exact⟨σ3,g1,μ1,R1,p1⟩
  |false=>rw[Uh Ud]at p1 ⊢;exact⟨σ3,g1,μ1,R1,p1⟩
theorem ZD:SZ<=sizeLine:=by rw[Tc];decide
theorem Dens.sz{K:Frag}{μ:List Addr}{H:Hp}{vs:List V}{ds:List D}(h:Dens K μ H vs ds)(z:ds.length<=SZ):vs.length<=sizeLine:=by rw[h.length];exact Uo z ZD
theorem ZN{k:Nat}(h:PA3 ca X es mr):PE3 ca X (.Tuple es k pos) (mOpA pTup mr) :=
 λpn Φ=>QS (Qgp (X:=xat X ca pn Φ) (h pn Φ)) λσ H Q ⟨σ3,g,μ,R,p⟩=>YR (QcD R p) λxs H1 hQ=>by
  obtain⟨ds,g1,μ1,e1,R1,q1,p1⟩:=hQ
  unfold pTup at p1
  by_cases z:ds.length<=SZ
  ·rw[Uf z]at p1
   exact⟨q1.sz z,λt ht=>p1 _ _ μ1 (QD ht) (R1.g.new ht) (.tup (.of Ql) (q1.mono (QD ht)))⟩
  ·rw[Uh z]at p1;exact p1.elim
theorem JL(h:PA3 ca X es mr):PE3 ca X (.List es pos) (mOpA newL mr) :=
 λpn Φ=>QS (Qij (X:=xat X ca pn Φ) (h pn Φ)) λσ H Q ⟨σ3,g,μ,R,p⟩=>YR (QcD R p) λxs H1 hQ=>by
  obtain⟨ds,g1,μ1,e1,R1,q1,p1⟩:=hQ
  unfold newL at p1
  by_cases z:ds.length<=SZ
  ·rw[Uf z]at p1
   refine⟨q1.sz z,λt ht=>p1 _ _ (μ1++[t]) (QA ht) (R1.g.push ht ⟨xs,Ql,q1.mono (QA ht)⟩) (.ref ?_)⟩
   rw[<-R1.g.len];simp
  ·rw[Uh z]at p1;exact p1.elim
end
section
variable{X:Cx}{ca:Nat->Addr}{pins:List (Addr×Obj)}{σ:L2.St}{H:Hp}{s:Shared}{a:Addr}{x:Xc}{E:Value->Shared->Prop}
theorem Qed{pn:List (Addr×Obj)}{Φ:XS}(I:Inv (xat X ca pn Φ) pins σ H s):Inv (xon X pn) pins σ H s:=(Inv.wish I λ_ _=>False)
theorem Qaq{b:Addr}{H':Hp}(I:Inv X pins σ H s)(hb:s.heap.get? b=none)(hn:H' b=none):FpW X pins H' b:=by
 refine⟨hn,λz=>?_,λz=>?_,?_,λx c e z=>?_,λp hp z=>?_⟩
 ·obtain⟨m,⟨o,_,_,ho,_⟩,_⟩:=I.loc
  rw[z,ho]at hb;cases hb
 ·obtain⟨_,o,ho,_⟩:=I.funs.mem z
  rw[ho]at hb;cases hb
 ·by_cases hx:b∈X.ex
  ·exact .inl hx
  ·refine .inr ?_
   cases q:X.s₀.heap.get? b with
   |none=>rfl
   |some o =>
    obtain⟨o',e'⟩:=I.base.there b o q hx
    rw[e']at hb;cases hb
 ·obtain⟨v,o,ho,_⟩:=I.cell x c e
  rw[z,hb]at ho;cases ho
 ·rw[<-z,(I.pin p hp).1]at hb;cases hb
theorem Qbr{H':Hp}{h':Heap}{g':Array GenState}{t':Nat}{d':Drawn}{ch:List Addr}(I:Inv X pins σ H s)(hch:∀b∈ch,(b∈X.ex\/X.s₀.heap.get? b=none)/\b≠X.env.locals/\(∀x c,X.env.cells.lookup x=some c->c≠b)/\∀p∈X.pn++pins,p.1≠b)(keep:∀b o,b≠X.env.locals->b∉X.fs->b∉ch->s.heap.get? b=some o->H b=none->h'.get? b=some o)(slot:∀b o,b≠X.env.locals->b∈X.fs->b∉ch->s.heap.get? b=some o->H b=none->∃sl,h'.get? b=some {o with slots:=sl})(free:∀b o,b∉ch->s.heap.get? b=some o->H b=none->H' b=none)(there:∀b o,b∉ch->s.heap.get? b=some o->∃o',h'.get? b=some o')(tups:∀b xs,H b=some (.tup xs)->H' b=some (.tup xs))(frzs:∀b o u,H b=some (.frz o u)->H' b=some (.frz o u))(tbls:∀b ps,H b=some (.tbl ps)->∃more,H' b=some (.tbl (ps++more)))(ns:∀m,s.heap.Ns X.env.locals m->h'.Ns X.env.locals m)(hok:HOk X.prog X.w H' h')(hg:AllBare g'):
  Inv X pins σ H' {s with heap:=h',gens:=g',drawn:=d',toks:=t'}:=by
 have neL:∀b o,X.s₀.heap.get? b=some o->b≠X.env.locals:=λb o e=>UK (Uv (Um e) I.ok.above)
 have neC:∀b o,X.s₀.heap.get? b=some o->b∉X.ex->b∉ch:=λb o e hx hb=>by
  rcases(hch b hb).1 with z|z
  ·exact hx z
  ·rw[z]at e;cases e
 have cellK:∀x c,X.env.cells.lookup x=some c->∀v,s.heap.IsCell c v->h'.IsCell c v:=λx c e v hQ=>by
  obtain⟨o,ho,hd⟩:=hQ
  have nch:c∉ch:=λz=>(hch c z).2.2.1 x c e rfl
  by_cases hc:c∈X.fs
  ·obtain⟨sl,q⟩:=slot c o (I.cne x c e) hc nch ho (I.freeC x c e)
   exact⟨_,q,hd⟩
  ·exact⟨o,keep c o (I.cne x c e) hc nch ho (I.freeC x c e),hd⟩
 refine⟨I.ok,I.os,hg,⟨λb o e n hb hx=>?_,λb o e n hb hx=>?_,λb o e n hx=>?_,λb o e hx=>?_,λb xs e=>tups b xs (I.base.tups b xs e),λb o xs e=>frzs b o xs (I.base.frzs b o xs e),λb ps e=>?_⟩,?_,λx c e=>?_,?_,λx c e=>?_,λp hp=>?_,hok,I.len⟩
 ·exact keep b o (neL b o e) hb (neC b o e hx) (I.base.keep b o e n hb hx) (I.base.free b o e n hx)
 ·obtain⟨sl,e1⟩:=I.base.slot b o e n hb hx
  obtain⟨sl',e2⟩:=slot b _ (neL b o e) hb (neC b o e hx) e1 (I.base.free b o e n hx)
  exact⟨sl',e2⟩
 ·obtain⟨o',e1⟩:=I.base.there b o e hx
  exact free b o' (neC b o e hx) e1 (I.base.free b o e n hx)
 ·obtain⟨o',e1⟩:=I.base.there b o e hx
  exact there b o' (neC b o e hx) e1
 ·obtain⟨m1,e1⟩:=I.base.tbls b ps e
  obtain⟨m2,e2⟩:=tbls b _ e1
  exact⟨m1++m2,by rw[e2,TQ]⟩
 ·obtain⟨m,hn,hl⟩:=I.loc
  refine⟨m,ns m hn,λi x v e1 e2 e3=>?_⟩
  obtain⟨u,r,l⟩:=hl i x v e1 e2 e3
  refine⟨u,r,?_⟩
  rcases l with l|⟨k,c,e,z⟩
  ·exact .inl l
  ·exact .inr ⟨k,c,e,cellK x c e _ z⟩
 ·obtain⟨v,z⟩:=I.cell x c e
  exact⟨v,cellK x c e v z⟩
 ·obtain⟨m,⟨o,_,_,ho,_⟩,_⟩:=I.loc
  exact free _ o (λz=>(hch _ z).2.1 rfl) ho I.free
 ·obtain⟨v,o,ho,hd⟩:=I.cell x c e
  exact free c o (λz=>(hch c z).2.2.1 x c e rfl) ho (I.freeC x c e)
 ·obtain⟨e,n,ne,nf,d⟩:=I.pin p hp
  have nch:p.1∉ch:=λz=>(hch p.1 z).2.2.2 p hp rfl
  exact⟨keep p.1 p.2 ne nf nch e n,free p.1 p.2 nch e n,ne,nf,d⟩
theorem QcG{ch:List Addr}{h':Heap}(I:Inv X pins σ H s)(hch:∀b∈ch,FpW X pins H b)(keep:∀b o,b∉ch->b≠X.env.locals->b∉X.fs->s.heap.get? b=some o->h'.get? b=some o)(slot:∀b o,b∉ch->s.heap.get? b=some o->∃sl,h'.get? b=some {o with slots:=sl}):Inv X pins σ H {s with heap:=h'}:=by
 have nl:X.env.locals∉ch:=λz=>(hch _ z).2.1 rfl
 have nt:∀b v,H b=some v->b∉ch:=λb v e z=>by rw[(hch b z).1]at e;cases e
 have nf:∀b v,H b=some v->b∉X.fs:=λb v e z=>by
  obtain⟨_,o,ho,_⟩:=I.ok.funs.mem z
  have:=I.base.free b o ho (I.ok.frf b z) λq=>I.ok.exfs b q z
  rw[this]at e;cases e
 have nL:∀b v,H b=some v->b≠X.env.locals:=λb v e z=>by rw[z,I.free]at e;cases e
 refine Qbr (h':=h') (H':=H) (g':=s.gens) (t':=s.toks) (d':=s.drawn) (ch:=ch) I (λb hb=>⟨(hch b hb).2.2.2.1,(hch b hb).2.1,(hch b hb).2.2.2.2.1,(hch b hb).2.2.2.2.2⟩) (λb o h1 h2 h3 e _=>keep b o h3 h1 h2 e) (λb o _ _ h3 e _=>slot b o h3 e)
  (λb o _ _ n=>n) (λb o h e=>let ⟨sl,q⟩:=slot b o h e;⟨_,q⟩) (λb v e=>e) (λb o v e=>e) (λb ps e=>⟨#[],by rw[e];simp⟩) (λm hm=>?_) (λb v e=>?_) I.bare
 ·obtain⟨o,es,ep,ho,rr⟩:=hm
  obtain⟨sl,q⟩:=slot _ o nl ho
  exact⟨_,es,ep,q,rr⟩
 ·refine(I.hok b v e).stay (λc' v' hc' q=>?_) (λc' q=>q) λc' xs' q=>q
  rcases hc' with rfl|hc'
  ·exact keep _ _ (nt _ _ e) (nL _ _ e) (nf _ _ e) q
  ·exact keep _ _ (nt _ _ hc') (nL _ _ hc') (nf _ _ hc') q
noncomputable def FlN(X:Cx)(ca:Nat->Addr)(a:Addr)(x:Xc)(H:Hp)(h:Heap):Prop :=
 FpW X [] H a/\True/\∃oe vs T oT ts,h.get? a=some oe/\XOb ca H x oe/\oe.data=.fields vs/\vs[1]?=some (.ref T)/\T≠a/\FpW X [] H T/\h.get? T=some oT/\oT.data=.fields ts/\ts[3]?=some (rawInt X.env.locals)
noncomputable def FlT(X:Cx)(ca:Nat->Addr)(a:Addr)(x:Xc)(H:Hp)(h:Heap):Prop :=
 FpW X [] H a/\True/\∃oe vs T oT ts,h.get? a=some oe/\XOb ca H x oe/\oe.data=.fields vs/\vs[1]?=some (.ref T)/\T≠a/\FpW X [] H T/\h.get? T=some oT/\oT.data=.fields ts/\3<ts.size
theorem FlN.t{h:Heap}(f:FlN X ca a x H h):FlT X ca a x H h:=by
 obtain⟨f1,f2,oe,vs,T,oT,ts,e1,e2,e3,e4,e5,e6,e7,e8,e9⟩:=f
 exact⟨f1,f2,oe,vs,T,oT,ts,e1,e2,e3,e4,e5,e6,e7,e8,(UN.mp e9).1⟩
theorem FlN.fl{h:Heap}(f:FlN X ca a x H h):Fl X ca a x H h:=by
 obtain⟨f1,f2,oe,vs,T,oT,ts,e1,e2,e3,e4,e5,e6,e7,e8,e9⟩:=f
 exact⟨f1,f2,oe,vs,e1,e2,e3,(UN.mp e4).1,.inr ⟨T,oT,ts,e4,e5,e6,e7,e8,(UN.mp e9).1,.inr e9⟩⟩
theorem Ja{h:Heap}{b:Addr}{o:Obj}{ts:Array Value}(i:Nat)(v:Value)(e:h.get? b=some o)(d:o.data=.fields ts):
  (h.update b (Obj.mapFields (·.setIfInBounds i v))).get? b=some (o.mapFields (·.setIfInBounds i v))/\(o.mapFields (·.setIfInBounds i v)).data=.fields (ts.setIfInBounds i v)/\(o.mapFields (·.setIfInBounds i v)).cls=o.cls :=
 ⟨TY _ e (Obj.isFreed_of_fields (TR d _)),TR d _,Wf _ _⟩
theorem QcH{base:Heap}{env:Env}{outer:List Env}{L:Addr}{oe:Obj}{vs:Array Value}{head:Value}{hn:Bool}{M:Model}{A:Around}{Q:Unit->Shared->Prop}(hfr:A.frames=some (env::outer))(hl:s.heap.FunFrames base (env::outer))(hf:env.frame=some L)(he:s.heap.get? a=some oe)(hd:oe.data=.fields vs)(hsz:1<vs.size)(ha:a∉(env::outer).filterMap (·.frame))(k:∀h₁ (cells:Array Value),Heap.SlotsOnly ((env::outer).filterMap (·.frame)) s.heap h₁->cells[3]?=some (rawInt L) ->
   Q () {s with heap:=(h₁.push {cls:=.type "traceback",dict:=none,data:=.fields cells}).update a (Obj.mapFields (·.setIfInBounds 1 (.ref h₁.objs.size)))}):
  wpAny M A (do let fv <-frameOf env;let pl <-entryPlaceOf L hn;let b <-EntryCells.newEntry head fv .none (rawInt L) .none pl;setField (.ref a) 1 b) Q E s:=by
 refine Ua (wpAny_frameOf_fun hfr hl hf λh₁ so=>Ua (wpAny_entryPlaceOf λpl hpl=>?_))
 unfold EntryCells.newEntry newFields
 refine Ua (Rx ?_ (hpl.sizeOk5 _ _ _ _ _))
 have e1:h₁.get? a=some oe:=(so.2.1 a ha).trans he
 refine T8 (Ub _ e1) hd hsz (k h₁ _ so ?_)
 first
  | (simp;done)
  | (rcases hpl with rfl|⟨_,_,_,_,_,_,_,rfl⟩ <;> simp)
theorem Qb7{M:Model}{Q:Unit->Shared->Prop}(I:Inv X [] σ H s)(hk:X.stack=X.env::X.outer)(hf:X.env.frame=some X.env.locals)(fl:Fl X ca a x H s.heap)(k:∀h',Inv X [] σ H {s with heap:=h'}->FlN X ca a x H h'->Q () {s with heap:=h'}):wpAny M X.A (noteFrame (.ref a) X.env) Q E s:=by
 obtain⟨fp,ln,oe,vs,he,hc,hd,hsz,hv⟩:=fl
 have hfr:X.A.frames=some (X.env::X.outer):=by rw[<-hk];exact I.ok.frames
 have hst:s.heap.FunFrames X.base (X.env::X.outer):=by rw[<-hk];exact I.stack
 have hfs:(X.env::X.outer).filterMap (·.frame)=X.env.locals::X.fs:=by rw[Tj,hf];rfl
 have ha:a∉(X.env::X.outer).filterMap (·.frame):=by
  rw[hfs]
  intro z
  rcases UG.mp z with z|z
  ·exact fp.2.1 z
  ·exact fp.2.2.1 z
 -- an entry is laid over a heap that differs from s at ch alone
 have fin:∀(h0 h₁:Heap)(cells:Array Value)(ch:List Addr),(∀b∈ch,FpW X [] H b)->(∀b o,b∉ch->s.heap.get? b=some o->h0.get? b=some o)->h0.objs.size=s.heap.objs.size->h0.get? a=some oe ->
   Heap.SlotsOnly ((X.env::X.outer).filterMap (·.frame)) h0 h₁->cells[3]?=some (rawInt X.env.locals) ->
   Q () {s with heap:=(h₁.push {cls:=.type "traceback",dict:=none,data:=.fields cells}).update a (Obj.mapFields (·.setIfInBounds 1 (.ref h₁.objs.size)))}:=by
  intro h0 h₁ cells ch hch hk0 hz he0 so hcl
  have e1:h₁.get? a=some oe:=(so.2.1 a ha).trans he0
  obtain⟨u1,u2,u3⟩:=Ja 1 (.ref h₁.objs.size) (Ub {cls:=.type "traceback",dict:=none,data:=.fields cells} e1) hd
  have hTa:h₁.objs.size≠a:=Ra (Um e1)
  have oth:∀b o,b≠a->h₁.get? b=some o->((h₁.push {cls:=.type "traceback",dict:=none,data:=.fields cells}).update a (Obj.mapFields (·.setIfInBounds 1 (.ref h₁.objs.size)))).get? b=some o:=λb o hb e =>
   (U1 _ _ (Ne.symm hb)).trans (Ub _ e)
  refine k _ (QcG (ch:=a::ch) I (λb hb=>?_) (λb o h1 h2 h3 e=>?_) λb o h1 e=>?_) ⟨fp,ln,_,_,h₁.objs.size,_,cells,u1,hc.map _,u2,by simp[hsz],hTa,?_,(U1 _ _ (Ne.symm hTa)).trans (Ur _ rfl),rfl,hcl⟩
  ·rcases UG.mp hb with e|e
   ·rw[e];exact fp
   ·exact hch b e
  ·refine oth b o (λz=>h1 (by rw[z];exact Up)) ?_
   rw[so.2.1 b (by rw[hfs];intro z;rcases UG.mp z with z|z;(· exact h2 z);exact h3 z)]
   exact hk0 b o (λz=>h1 (Uj _ z)) e
  ·obtain⟨sl,q⟩:=so.2.2 b o (hk0 b o (λz=>h1 (Uj _ z)) e)
   exact⟨sl,oth b _ (λz=>h1 (by rw[z];exact Up)) q⟩
  ·refine Qaq I (T3 ?_) (I.hok.fresh ?_) <;> rw[so.1,hz] <;> exact Ul _
 unfold noteFrame
 simp only[hf]
 rcases hv with hv|⟨T,oT,ts,hv,hTa,fT,hT,hdT,hs3,h3⟩
 ·refine Ua (US he hd hv ?_)
  rw[Uh (by decide)]
  exact QcH hfr hst hf he hd hsz ha λh₁ cells so hcl=>fin s.heap h₁ cells [] (by simp) (λ_ _ _ e=>e) rfl he so hcl
 ·refine Ua (US he hd hv ?_)
  rw[Uf (show(Value.ref T != Value.none)=true from by simp)]
  rcases h3 with h3|h3
  ·refine Ua (US hT hdT h3 ?_)
   rw[Uh (show ¬((Value.none == rawInt X.env.locals)=true) from by simp[rawInt])]
   refine Ua (T8 hT hdT hs3 ?_)
   have oth:∀b o,b≠T->s.heap.get? b=some o->(s.heap.update T (Obj.mapFields (·.setIfInBounds 3 Value.none))).get? b=some o:=λb o hb e=>(U1 _ _ (Ne.symm hb)).trans e
   have kp:∀b o,s.heap.get? b=some o->(∀vs,o.data≠.fields vs)->(s.heap.update T (Obj.mapFields (·.setIfInBounds 3 Value.none))).get? b=some o:=λb o e n=>oth b o (λz=>by rw[z,hT]at e;cases e;exact n _ hdT) e
   refine QcH (s:={s with heap:=s.heap.update T (Obj.mapFields (·.setIfInBounds 3 Value.none))}) hfr (hst.of_keeps λb o e n=>⟨o,kp b o e n,rfl⟩) hf (oth a oe (Ne.symm hTa) he) hd hsz ha λh₁ cells so hcl=>?_
   exact fin _ h₁ cells [T] (λb hb=>by rw[Ug.mp hb];exact fT) (λb o hb e=>oth b o (λz=>hb (by simp[z])) e) (Heap.size_after_update ..) (oth a oe (Ne.symm hTa) he) so hcl
  ·refine Ua (US hT hdT h3 ?_)
   rw[Uf (show(rawInt X.env.locals == rawInt X.env.locals)=true from by simp)]
   exact Uk (k s.heap I ⟨fp,ln,oe,vs,T,oT,ts,he,hc,hd,hv,hTa,fT,hT,hdT,h3⟩)
theorem Yi{M:Model}{A:Around}{Q:Unit->Shared->Prop}{fo:Option Addr}(I:Inv X [] σ H s)(fl:FlT X ca a x H s.heap)(k:∀h' T oT ts oe vs,Inv X [] σ H {s with heap:=h'}->h'.get? a=some oe->XOb ca H x oe->oe.data=.fields vs->vs[1]?=some (.ref T)->T≠a->FpW X [] H T ->
      h'.get? T=some oT->oT.data=.fields ts->3<ts.size->ts[3]?=some (fo.elim Value.none λf=>rawInt f)->Q () {s with heap:=h'}):wpAny M A (setFlight (.ref a) fo) Q E s:=by
  obtain⟨fp,ln,oe,vs,T,oT,ts,he,hc,hd,hv,hTa,fT,hT,hdT,hs3⟩:=fl
  unfold setFlight
  refine Ua (US he hd hv ?_)
  rw[Uf (show(Value.ref T != Value.none)=true from by simp)]
  have oth:∀b o,b≠T->s.heap.get? b=some o->(s.heap.update T (Obj.mapFields (·.setIfInBounds 3 (fo.elim Value.none λf=>rawInt f)))).get? b=some o:=λb o hb e=>(U1 _ _ (Ne.symm hb)).trans e
  obtain⟨u1,u2,u3⟩:=Ja 3 (fo.elim Value.none λf=>rawInt f) hT hdT
  refine T8 hT hdT hs3 (k _ T _ _ oe vs (QcG (ch:=[T]) I (λb hb=>by rw[Ug.mp hb];exact fT) (λb o h1 _ _ e=>oth b o (λz=>h1 (by simp[z])) e) λb o h1 e=>⟨o.slots,oth b o (λz=>h1 (by simp[z])) e⟩)
    (oth a oe (Ne.symm hTa) he) hc hd hv hTa fT u1 u2 (by simpa using hs3) (by simp[hs3]))
theorem Qiv(hk:X.stack=X.env::X.outer)(hf:X.env.frame=some X.env.locals)(pn:List (Addr×Obj))(Φ:XS):PassesOwn (model X.prog X.w) X.A X.env (xat X ca pn Φ).xe:=by
 rintro v s ⟨a,x,σ,H,rfl,I,fl,q⟩
 refine Qb7 (X:=xon X pn) I hk hf fl λh1 I1 f1=>?_
 unfold cameBackBy
 obtain⟨fp,ln,oe,vs,T,oT,ts,he,hc,hd,hv,hTa,fT,hT,hdT,h3⟩:=id f1
 refine Ua (US he hd hv ?_)
 rw[Uh (show ¬((Value.ref T == Value.none)=true) from by simp)]
 refine Yi (X:=xon X pn) (fo:=X.env.frame) I1 f1.t λh2 T oT ts oe vs I2 a1 a2 a3 a4 a5 a6 a7 a8 a9 a10=>?_
 rw[hf]at a10
 exact⟨a,x,σ,H,rfl,I2,FlN.fl ⟨fp,ln,oe,vs,T,oT,ts,a1,a2,a3,a4,a5,a6,a7,a8,a10⟩,q⟩
end
noncomputable def CXW(P:Program)(w:World)(ca:Nat->Addr):CXT:=λouter H s E v s'=>∃(a:Addr)(x:Xc)(H':Hp),v=.ref a/\s'.os=s.os/\AllBare s'.gens/\Un (frs outer) [] H H' s.heap s'.heap/\HOk P w H' s'.heap/\True /\
 (∃oe vs T oT ts,s.heap.get? a=none/\H' a=none/\s'.heap.get? a=some oe/\XOb ca H' x oe/\oe.data=.fields vs/\vs[1]?=some (.ref T)/\T≠a/\s.heap.get? T=none/\H' T=none/\s'.heap.get? T=some oT/\oT.data=.fields ts/\ts[3]?=some .none) /\
 E (.int x.1 0) x.2 H'
section
variable{P:Program}{w:World}{K:Frag}{mg:Str->Option Value}{base:Heap}{ca:Nat->Addr}
theorem QfB{N:List Str}{qual:Str}{scope:Scope}{f:Addr}{cd:Value}{A:Around}{outer:List Env}{s s':Shared}{H:Hp}{E:XK}{v:Value}(h:XE (xon (cxOf (CXW P w ca) P w K mg base N qual scope f cd A outer s H E) []) ca (λx _ H'=>E (.int x.1 0) x.2 H') v s'):(cxOf (CXW P w ca) P w K mg base N qual scope f cd A outer s H E).xe v s':=by
 obtain⟨a,x,σ,H',rfl,I,fl,q⟩:=h
 show wpAny _ _ (leaving _ (.ref a)) _ _ s'
 unfold leaving
 refine Ua (Qb7 I rfl rfl fl λh1 I1 f1=>?_)
 obtain⟨fp,ln,_⟩:=id f1
 refine Yi (fo:=none) I1 f1.t λh2 T oT ts oe vs I2 a1 a2 a3 a4 a5 a6 a7 a8 a9 a10=>?_
 refine⟨a,x,H',rfl,I2.os,I2.bare,I2.base,I2.hok,ln,⟨oe,vs,T,oT,ts,?_,fp.1,a1,a2,a3,a4,a5,?_,a6.1,a7,a8,a10⟩,q⟩
 ·rcases fp.2.2.2.1 with z|z
  ·exact absurd (show a∈([]:List Addr) from z) (by simp)
  ·exact z
 ·rcases a6.2.2.2.1 with z|z
  ·exact absurd (show T∈([]:List Addr) from z) (by simp)
  ·exact z
end
section
variable{X:Cx}{ca:Nat->Addr}{pn:List (Addr×Obj)}{Φ:XS}
theorem Qee{pins:List (Addr×Obj)}{σ:L2.St}{H:Hp}{s s':Shared}{v:Value}(I:Inv (xat X ca pn Φ) pins σ H s)(h:CXW X.prog X.w ca X.stack H s (λc l H'=>∀x:Xc,c=.int x.1 0->l=x.2->Φ x σ H') v s'):(xat X ca pn Φ).xe v s':=by
 obtain⟨a,x,H',rfl,os,bare,un,hok,ln,⟨oe,vs,T,oT,ts,e1,e2,e3,e4,e5,e6,e7,e8,e9,e10,e11,e12⟩,q⟩:=h
 have I0:Inv (xon X pn) [] σ H s:=(Qed I).pins_of λp hp=>absurd hp (by simp)
 have I1:Inv (xon X pn) [] σ H' s':=Inv.call' (ch:=[]) I0 os un hok bare λb z=>absurd z (by simp)
 refine⟨a,x,σ,H',rfl,I1,⟨Qaq I0 e1 e2,ln,oe,vs,e3,e4,e5,(UN.mp e6).1,.inr ⟨T,oT,ts,e6,e7,Qaq I0 e8 e9,e10,e11,(UN.mp e12).1,.inl e12⟩⟩,q x rfl rfl⟩
end
section
variable{X:Cx}{ca:Nat->Addr}{a b c e:Expr}{st:Stmt}{sts rest:List Stmt}{ma mb me:ME}{tc:MT}{m m':MS}{pos:Pos}
theorem QB:PSs3 ca X [] QO:=λpn Φ=>QcE (QdM (X:=xat X ca pn Φ)) λ_ σ H ⟨_,_,μ,R,p⟩=>p σ H μ .refl R
theorem Qiw{K:Frag}{Φ:XS}(E:Ends)(σ:L2.St)(H:Hp)(h:upS K ca Φ (mSeq m m') E σ H):tSeq (upS K ca Φ m) (upS K ca Φ m') E σ H:=by
 obtain⟨σ3,g,μ,R,p⟩:=h
 refine⟨σ3,g,μ,R,?_⟩
 unfold mSeq at p
 cases hm:m σ3 g with
 |nx σ1 g1 =>
  rw[hm]at p
  exact λσ' H' μ' e' R'=>⟨σ1,g1,μ',R',PostS.go e' p⟩
 |rt d g1=>rw[hm]at p;exact p
 |bk _ _=>rw[hm]at p;exact p
 |ct _ _=>rw[hm]at p;exact p
 |raise _ _ _=>rw[hm]at p;exact p
 |stuck=>rw[hm]at p;exact p
theorem Qc(h1:PS3 ca X st m)(h2:PSs3 ca X rest m'):PSs3 ca X (st::rest) (mSeq m m'):=λpn Φ=>QcE (Qcu (X:=xat X ca pn Φ) (h1 pn Φ) (h2 pn Φ)) Qiw
theorem Qj(h1:PS3 ca X st m):PSs3 ca X [st] m:=λpn Φ=>QdN (X:=xat X ca pn Φ) (h1 pn Φ)
theorem Qbs(he:PE3 ca X e me)(hs:swapsWith e none pos.line X.env=pure false:=by rfl):PS3 ca X (.Expr e pos) (YO me) :=
 λpn Φ=>Yh (QdO (X:=xat X ca pn Φ) (he pn Φ) hs) λE σ H ⟨σ3,g,μ,R,p⟩=>⟨σ3,g,μ,R,by
  unfold YO at p
  cases hm:me σ3 g with
  |ok d g1=>rw[hm]at p;exact λv H' μ' e' r' _=>p σ H' μ' e' (R.go e' r')
  |raise _ _=>rw[hm]at p;exact RaP.stmt R p
  |stuck=>rw[hm]at p;exact p⟩
theorem QE(he:PE3 ca X e me):PS3 ca X (.Return (some e) pos) (mRet me) :=
 λpn Φ=>Yh (Qh6 (X:=xat X ca pn Φ) (he pn Φ)) λE σ H ⟨σ3,g,μ,R,p⟩=>⟨σ3,g,μ,R,by
  unfold mRet at p
  cases hm:me σ3 g with
  |ok d g1=>rw[hm]at p;exact p
  |raise _ _=>rw[hm]at p;exact RaP.stmt R p
  |stuck=>rw[hm]at p;exact p⟩
theorem r_if{sa sb:List Stmt}(hc:PT3 ca X c tc)(ha:PSs3 ca X sa m)(hb:PSs3 ca X sb m'):PS3 ca X (.If c sa sb pos) (mIf tc m m') :=
 λpn Φ=>Yh (Qjr (X:=xat X ca pn Φ) (hc pn Φ) (ha pn Φ) (hb pn Φ)) λE σ H ⟨σ3,g,μ,R,p⟩=>⟨σ3,g,μ,R,by
  unfold mIf at p
  cases hm:tc σ3 g with
  |ok d g1 =>
   rw[hm]at p
   cases d with
   |true=>exact λH' μ' e' r'=>by show(if true=true then _ else _);rw[Uf rfl];exact⟨σ3,g1,μ',R.go e' r',PostS.go e' (by simpa using p)⟩
   |false=>exact λH' μ' e' r'=>by show(if false=true then _ else _);rw[Uh Ud];exact⟨σ3,g1,μ',R.go e' r',PostS.go e' (by simpa using p)⟩
  |raise _ _=>rw[hm]at p;exact RaP.stmt R p
  |stuck=>rw[hm]at p;exact p⟩
noncomputable def upG(K:Frag)(ca:Nat->Addr)(f:MG):TG:=λv σ H Q=>∃σ3 g μ d σ3',Rep K ca μ σ3 g σ H/\Den K μ H v d/\f d σ3=some σ3'/\∀σ',Rep K ca μ σ3' g σ' H->Q σ' H
def PG3(ca:Nat->Addr)(X:Cx)(tg:Expr)(f:MG):Prop:=∀pn Φ,PG (xat X ca pn Φ) tg (upG X.K ca f)
theorem Qef{X:Cx}{tg:Expr}{t t':TG}(h:PG X tg t)(i:∀v σ H Q,t' v σ H Q->t v σ H Q):PG X tg t':=λpins s σ H x u Q I r q=>h pins s σ H x u Q I r (i x σ H Q q)
theorem Rep.set{K:Frag}{μ:List Addr}{σ3:S3}{g:G}{σ:L2.St}{H:Hp}{v:V}{d:D}(R:Rep K ca μ σ3 g σ H)(h:Den K μ H v d)(i:Nat):Rep K ca μ (σ3.set i (some d)) g (σ.set i (some v)) H:=by
 refine⟨R.g,by rw[UR,UR,R.len],λj x hx=>?_⟩
 by_cases e:j=i
 ·subst e
  have hl:j<σ3.length:=by
   have:=(Ui.mp hx).1
   simpa using this
  rw[U0 hl]at hx
  cases hx
  exact⟨v,by rw[U0 (by rw[R.len];exact hl)],h⟩
 ·rw[Uy (Ne.symm e)]at hx
  obtain⟨w,h1,h2⟩:=R.st j x hx
  exact⟨w,by rw[Uy (Ne.symm e)];exact h1,h2⟩
theorem Q1(i:Nat){x:Str}(hN:X.N.Nodup)(hi:X.N[i]?=some x:=by rfl)(hx:Loc X.env.scope x:=by first|exact Or.inl rfl|exact Or.inr rfl)(hf:X.fn x=true\/X.env.scope.names.lookup x=some .local:=by first|exact .inl rfl|exact .inr rfl):PG3 ca X (.Name x pos) (gSet i) :=
 λpn Φ=>Qef (QgN (X:=xat X ca pn Φ) hN hi hx hf) λv σ H Q hQ=>by
  obtain⟨σ3,g,μ,d,σ3',R,q,e,k⟩:=hQ
  cases e
  exact k _ (R.set q i)
noncomputable def upGs(K:Frag)(ca:Nat->Addr)(fs:List MG):TGs:=λvs σ H Q=>∃σ3 g μ ds σ3',Rep K ca μ σ3 g σ H/\Dens K μ H vs ds/\Qdi fs ds σ3=some σ3'/\∀σ',Rep K ca μ σ3' g σ' H->Q σ' H
def PGs3(ca:Nat->Addr)(X:Cx)(tgs:List Expr)(fs:List MG):Prop:=∀pn Φ,PGs (xat X ca pn Φ) tgs (upGs X.K ca fs)
theorem QcI{X:Cx}{tg:List Expr}{t t':TGs}(h:PGs X tg t)(i:∀v σ H Q,t' v σ H Q->t v σ H Q):PGs X tg t':=λpins s σ H xs us Q I r q=>h pins s σ H xs us Q I r (i xs σ H Q q)
theorem Qeg:PGs3 ca X [] []:=λpn Φ=>QcI (QgO (X:=xat X ca pn Φ)) λvs σ H Q hQ=>by
 obtain⟨σ3,g,μ,ds,σ3',R,q,e,k⟩:=hQ
 cases q with
 |nil=>cases e;exact⟨rfl,k _ R⟩
 |cons _ _=>cases e
theorem Jb{es:List Expr}{f:MG}{fs:List MG}(h1:PG3 ca X e f)(h2:PGs3 ca X es fs)(hs:(assignEach (e::es) X.env).map (·.2)=assign e X.env::(assignEach es X.env).map (·.2):=by rfl):PGs3 ca X (e::es) (f::fs) :=
 λpn Φ=>QcI (Qfs (X:=xat X ca pn Φ) (h1 pn Φ) (h2 pn Φ) hs) λvs σ H Q hQ=>by
  obtain⟨σ3,g,μ,ds,σ3',R,q,e,k⟩:=hQ
  cases q with
  |nil=>cases e
  |@cons v d vs ds q1 q2 =>
   unfold Qdi at e
   cases hf:f d σ3 with
   |none=>rw[hf]at e;cases e
   |some σ4 =>
    rw[hf]at e
    exact⟨v,vs,rfl,σ3,g,μ,d,σ4,R,q1,hf,λσ' R'=>⟨σ4,g,μ,ds,σ3',R',q2,e,k⟩⟩
theorem Qbt:∀{fs:List MG}{ds:List D}{σ σ':S3},Qdi fs ds σ=some σ'->ds.length=fs.length
 |[],[],_,_,_=>rfl
 |[],_::_,_,_,h=>by cases h
 |_::_,[],_,_,h=>by cases h
 |f::fs,d::ds,σ,σ',h=>by
  unfold Qdi at h
  cases hf:f d σ with
  |none=>rw[hf]at h;cases h
  |some σ4 =>
   rw[hf]at h
   rw[Uz,Uz,Qbt (fs:=fs) h]
theorem Qeh{es:List Expr}{k:Nat}{fs:List MG}(hc:X.calm=true)(h:PGs3 ca X es fs)(hn:(assignEach es X.env).length=fs.length:=by rfl)(hst:(assignEach es X.env).findIdx? (·.1)=none:=by rfl):PG3 ca X (.Tuple es k pos) (QaF fs) :=
 λpn Φ=>Qef (Qh8 (X:=xat X ca pn Φ) hc (h pn Φ) hn hst) λv σ H Q hQ=>by
  obtain⟨σ3,g,μ,d,σ3',R,q,e,kk⟩:=hQ
  cases q with
  |@tup a vs ds ht hs =>
   exact⟨a,vs,rfl,ht,hs.length.trans (Qbt e),σ3,g,μ,ds,σ3',R,hs,e,kk⟩
  |_=>cases e
theorem Qix{K:Frag}{Φ:XS}{f:MG}(E:Ends)(σ:L2.St)(H:Hp)(h:upS K ca Φ (mAsg f me) E σ H):tAsg (up K ca Φ me) (upG K ca f) E σ H:=by
 obtain⟨σ3,g,μ,R,p⟩:=h
 refine⟨σ3,g,μ,R,?_⟩
 unfold mAsg at p
 cases hm:me σ3 g with
 |ok d g1 =>
  rw[hm]at p
  dsimp only at p
  intro v H' μ' e' r' q'
  cases hf:f d σ3 with
  |none=>rw[hf]at p;exact p.elim
  |some σ4 =>
   rw[hf]at p
   exact⟨σ3,g1,μ',d,σ4,R.go e' r',q',hf,λσ' R'=>p σ' H' μ' e' R'⟩
 |raise _ _=>rw[hm]at p;exact RaP.stmt R p
 |stuck=>rw[hm]at p;exact p
theorem QjD{tg:Expr}{f:MG}(he:PE3 ca X e me)(hg:PG3 ca X tg f)(hs:swapsWithSole [tg] e pos.line X.env=pure false:=by rfl)(hw:swappedStores [tg] e X.env=pure none:=by rfl)(h1:(assignEach [tg] X.env).map (·.2)=[assign tg X.env]:=by rfl):PS3 ca X (.Assign [tg] e pos) (mAsg f me) :=
 λpn Φ=>Yh (Qgm (X:=xat X ca pn Φ) (he pn Φ) (hg pn Φ) hs hw h1) Qix
theorem QjE(i:Nat){x:Str}{pos':Pos}(hN:X.N.Nodup)(he:PE3 ca X e me)(hi:X.N[i]?=some x:=by rfl)(hx:Loc X.env.scope x:=by first|exact Or.inl rfl|exact Or.inr rfl)(hs:swapsWith e (some (.Name x pos')) pos.line X.env=pure false:=by rfl)(hf:X.fn x=true\/X.env.scope.names.lookup x=some .local:=by first|exact .inl rfl|exact .inr rfl):
  PS3 ca X (.Assign [.Name x pos'] e pos) (mAsg (gSet i) me) :=
 λpn Φ=>Yh (Qia (X:=xat X ca pn Φ) hN hi hx (he pn Φ) hs hf) λE σ H h=>by
  obtain⟨σ3,g,μ,R,p⟩:=h
  refine⟨σ3,g,μ,R,?_⟩
  unfold mAsg gSet at p
  cases hm:me σ3 g with
  |ok d g1 =>
   rw[hm]at p
   exact λv H' μ' e' r' q'=>p _ H' μ' e' ((R.go e' r').set q' i)
  |raise _ _=>rw[hm]at p;exact RaP.stmt R p
  |stuck=>rw[hm]at p;exact p
structure FldOk(K:Frag)(ca:Nat->Addr)(cs:List Nat)(f:Str):Prop where
 cl:∀c∈cs,Cls K (ca c)
 no:∀c∈cs,NoAttr K (ca c) f
theorem FRel.look{K:Frag}{μ:List Addr}{H:Hp}{f:Str}{d:D}:∀{fv:List (Str×V)}{fs:List (Str×D)},FRel K μ H fv fs->fs.lookup f=some d->∃v,fv.lookup f=some v/\Den K μ H v d
 |_,_,.nil,h=>by cases h
 | (k,v)::r,(k',d')::r',.cons ⟨e,q⟩ t,h=>by
  have e:k=k':=e
  subst e
  cases hb:f == k with
  |true =>
   simp only[List.lookup,hb]at h ⊢
   cases h
   exact⟨v,rfl,q⟩
  |false =>
   simp only[List.lookup,hb]at h ⊢
   exact FRel.look t h
theorem FRel.no{K:Frag}{μ:List Addr}{H:Hp}{f:Str}:∀{fv:List (Str×V)}{fs:List (Str×D)},FRel K μ H fv fs->fs.lookup f=Option.none->fv.lookup f=Option.none
 |_,_,.nil,_=>rfl
 | (k,v)::r,(k',d')::r',.cons ⟨e,q⟩ t,h=>by
  have e:k=k':=e
  subst e
  cases hb:f == k with
  |true=>simp only[List.lookup,hb]at h;cases h
  |false =>
   simp only[List.lookup,hb]at h ⊢
   exact FRel.no t h
theorem FRel.put{K:Frag}{μ:List Addr}{H:Hp}{f:Str}{v:V}{d:D}(q:Den K μ H v d):∀{fv:List (Str×V)}{fs:List (Str×D)},FRel K μ H fv fs->FRel K μ H (putF f v fv) (putG f d fs)
 |_,_,.nil=>.cons ⟨rfl,q⟩ .nil
 | (k,w)::r,(k',d')::r',.cons ⟨e,z⟩ t=>by
  have e:k=k':=e
  subst e
  show FRel K μ H (if k=f then (k,v)::r else (k,w)::putF f v r) (if k=f then (k,d)::r' else (k,d')::putG f d r')
  by_cases h:k=f
  ·rw[Uf h,Uf h];exact .cons ⟨rfl,q⟩ t
  ·rw[Uh h,Uh h];exact .cons ⟨rfl,z⟩ (FRel.put q t)
theorem Qiy{cs:List Nat}{f:Str}(he:PE3 ca X e me)(ok:FldOk X.K ca cs f)(hb:attributeBase e f X.env (eval e X.env)=eval e X.env:=by rfl):PE3 ca X (.Attribute e f pos) (QfA cs f me) :=
 λpn Φ=>QS (Qih (X:=xat X ca pn Φ) (he pn Φ) hb) λσ H Q ⟨σ3,g,μ,R,p⟩=>QJ (Yc R p) λx H1 hQ=>by
  obtain⟨d,g1,μ1,e1,R1,q1,p1⟩:=hQ
  cases q1 with
  |@ref n a hn =>
   dsimp only at p1
   cases hg:g1[n]? with
   |none=>rw[hg]at p1;exact p1.elim
   |some o =>
    rw[hg]at p1
    obtain⟨a',ha',ob⟩:=R1.g.addr hg
    rw[hn]at ha';cases ha'
    cases o with
    |ins c fs =>
     dsimp only at p1
     obtain⟨dx,fv,hH,fr⟩:=ob
     by_cases hc:c∈cs
     ·rw[Uf hc]at p1
      cases hl:fs.lookup f with
      |none=>rw[hl]at p1;exact p1.elim
      |some y =>
       rw[hl]at p1
       obtain⟨v,h1,h2⟩:=fr.look hl
       exact⟨a,ca c,dx,fv,v,rfl,hH,ok.cl c hc,ok.no c hc,h1,p1 v H1 μ1 .refl R1.g h2⟩
     ·rw[Uh hc]at p1;exact p1.elim
    |_=>exact p1.elim
  |_=>exact p1.elim
theorem Qei{o:Expr}{mo:ME}{cs:List Nat}{f:Str}{pos':Pos}(ho:PE3 ca X o mo)(he:PE3 ca X e me)(ok:FldOk X.K ca cs f)(hs:swapsWith e (some (.Attribute o f pos')) pos.line X.env=pure false:=by rfl):
  PS3 ca X (.Assign [.Attribute o f pos'] e pos) (Jt cs f mo me) :=
 λpn Φ=>Yh (Qii (X:=xat X ca pn Φ) (ho pn Φ) (he pn Φ) hs) λE σ H ⟨σ3,g,μ,R,p⟩=>⟨σ3,g,μ,R,by
  unfold Jt at p
  cases hm:me σ3 g with
  |ok y g1 =>
   rw[hm]at p
   dsimp only at p
   intro vy H1 μ1 e1 r1 q1
   refine⟨σ3,g1,μ1,R.go e1 r1,?_⟩
   cases hm2:mo σ3 g1 with
   |ok d g2 =>
    rw[hm2]at p
    intro vx H2 μ2 e2 r2 q2
    cases q2 with
    |@ref n a hn =>
     dsimp only at p
     cases hg:g2[n]? with
     |none=>rw[hg]at p;exact p.elim
     |some ob =>
      rw[hg]at p
      obtain⟨a',ha',orp⟩:=r2.addr hg
      rw[hn]at ha';cases ha'
      cases ob with
      |ins c fs =>
       dsimp only at p
       obtain⟨dx,fv,hH,fr⟩:=orp
       by_cases hc:c∈cs/\fs.length<100
       ·rw[Uf hc]at p
        have fl:fv.length=fs.length:=Paired.length fr
        refine⟨a,ca c,dx,fv,rfl,hH,ok.cl c hc.1,ok.no c hc.1,by omega,?_⟩
        have ex:Ext X.K μ2 H2 μ2 (upd H2 a (.ins (ca c) dx (putF f vy fv))):=JI hH (by intro _ z;cases z) (by intro _ _ z;cases z)
        refine p σ _ μ2 ((e1.trans e2).trans ex) ((R.go (e1.trans e2) r2).go ex ?_)
        exact r2.set hn hH (by intro _ z;cases z) (by intro _ _ z;cases z) ⟨dx,_,Ql,FRel.put ((q1.mono e2).mono ex) (fr.mono ex)⟩
       ·rw[Uh hc]at p;exact p.elim
      |_=>exact p.elim
    |_=>exact p.elim
   |raise _ _=>rw[hm2]at p;exact(RaP.stmt R p).go e1
   |stuck=>rw[hm2]at p;exact p
  |raise _ _=>rw[hm]at p;exact RaP.stmt R p
  |stuck=>rw[hm]at p;exact p⟩
theorem Jc{o i:Expr}{mo mi:ME}{pos':Pos}(ho:PE3 ca X o mo)(hi:PE3 ca X i mi)(he:PE3 ca X e me)(hs:swapsWithSole [.Subscript o i pos'] e pos.line X.env=pure false:=by rfl)(hw:swappedStores [.Subscript o i pos'] e X.env=pure none:=by rfl)(h1:(assignEach [.Subscript o i pos'] X.env).map (·.2)=[assign (.Subscript o i pos') X.env]:=by rfl)(ha:∀v,assign (.Subscript o i pos') X.env v=(do
   let ov <-holding [v] (eval o X.env)
   let iv <-holding [v,ov] (eval i X.env)
   standAt pos'
   holding [v,ov,iv] (setItem ov iv v)
   release [v,ov,iv] []):=by intro _;rfl):PS3 ca X (.Assign [.Subscript o i pos'] e pos) (Zz mo mi me) :=
 λpn Φ=>Yh (Qgm (X:=xat X ca pn Φ) (he pn Φ) (Qh9 (X:=xat X ca pn Φ) (ho pn Φ) (hi pn Φ) Qfy ha) hs hw h1) λE σ H ⟨σ3,g,μ,R,p⟩=>⟨σ3,g,μ,R,by
  unfold Zz at p
  cases hm:me σ3 g with
  |ok y g1 =>
   rw[hm]at p
   dsimp only at p
   intro vy H1 μ1 e1 r1 q1
   refine⟨σ3,g1,μ1,R.go e1 r1,?_⟩
   cases hm2:mo σ3 g1 with
   |ok d g2 =>
    rw[hm2]at p
    intro vx H2 μ2 e2 r2 q2
    cases q2 with
    |@ref n a hn =>
     dsimp only at p
     refine⟨σ3,g2,μ2,R.go (e1.trans e2) r2,?_⟩
     cases hm3:mi σ3 g2 with
     |ok di g3 =>
      rw[hm3]at p
      intro vi H3 μ3 e3 r3 q3
      cases q3 with
      |int k =>
       dsimp only at p
       cases hg:g3[n]? with
       |none=>rw[hg]at p;exact p.elim
       |some ob =>
        rw[hg]at p
        obtain⟨a',ha',orp⟩:=r3.addr hg
        rw[e3.at hn]at ha';cases ha'
        cases ob with
        |lst ds =>
         dsimp only at p
         obtain⟨vs,hH,q⟩:=orp
         cases hj:ixD ds.length k with
         |none=>rw[hj]at p;exact p.elim
         |some j =>
          rw[hj]at p
          have ex:Ext X.K μ3 H3 μ3 (upd H3 a (.lst (vs.set j vy))):=JI hH (by intro _ z;cases z) (by intro _ _ z;cases z)
          refine⟨a,vs,k,j,rfl,rfl,hH,by rw[q.length];exact hj,?_⟩
          refine p σ _ μ3 (((e1.trans e2).trans e3).trans ex) ((R.go ((e1.trans e2).trans e3) r3).go ex ?_)
          exact r3.set (e3.at hn) hH (by intro _ z;cases z) (by intro _ _ z;cases z) ⟨_,Ql,Dens.set (((q1.mono e2).mono e3).mono ex) j (q.mono ex)⟩
        |_=>exact p.elim
      |_=>exact p.elim
     |raise _ _=>rw[hm3]at p;exact(RaP.stmt R p).go (e1.trans e2)
     |stuck=>rw[hm3]at p;exact p
    |_=>exact p.elim
   |raise _ _=>rw[hm2]at p;exact(RaP.stmt R p).go e1
   |stuck=>rw[hm2]at p;exact p
  |raise _ _=>rw[hm]at p;exact RaP.stmt R p
  |stuck=>rw[hm]at p;exact p⟩
noncomputable def Sim(K:Frag)(ca:Nat->Addr)(μ0:List Addr)(H0:Hp)(src:Src)(J:It):Prop :=
 ∀(i:Nat)(H:Hp)(μ:List Addr)(g:G),Ext K μ0 H0 μ H->GRep K ca μ H g->match src.at' g i with
  |some (some d)=>J.go i H/\∀x H',J.yld i H x H'->Ext K μ H μ H'/\GRep K ca μ H' g/\Den K μ H' x d
  |some none=>J.stop i H
  |none=>True
noncomputable def upI(K:Frag)(ca:Nat->Addr)(Φ:XS)(m:MI):TI:=λσ H R=>∃σ3 g μ,Rep K ca μ σ3 g σ H/\match m σ3 g with
 |.ok src g'=>∀J H' μ',Ext K μ H μ' H'->GRep K ca μ' H' g'->Sim K ca μ' H' src J->R J H'
 |.raise x g'=>RaP K ca Φ σ H μ x g'
 |.stuck=>False
def PI3(ca:Nat->Addr)(X:Cx)(tg iter:Expr)(m:MI):Prop:=∀pn Φ,PI (xat X ca pn Φ) tg iter (upI X.K ca Φ m)
theorem Qb8{tg iter:Expr}{body:List Stmt}{mi:MI}{f:MG}(hc:X.calm=true)(hi:PI3 ca X tg iter mi)(hg:PG3 ca X tg f)(hb:PSs3 ca X body m)(hs:∀x,foldedSetIterable iter X.env x=pure x:=by intro _;rfl)(hk:X.stack=X.env::X.outer:=by rfl)(hf:X.env.frame=some X.env.locals:=by rfl):
  PS3 ca X (.For tg iter body [] pos) (mFor mi f m) :=
 λpn Φ=>Yh (Qib (X:=xat X ca pn Φ) (Qiv hk hf pn Φ) hc (hi pn Φ) (hg pn Φ) (hb pn Φ) hs) λE σ H ⟨σ3,g,μ,R,p⟩=>⟨σ3,g,μ,R,by
  unfold mFor at p
  cases hm:mi σ3 g with
  |ok src g' =>
   rw[hm]at p
   dsimp only at p ⊢
   intro J H' μ' e' r' sim
   refine⟨λi n σ1 H1=>∃σ4 g1 μ1,Ext X.K μ' H' μ1 H1/\Rep X.K ca μ1 σ4 g1 σ1 H1/\PostS X.K ca Φ E H1 μ1 (forL src f m n i σ4 g1),⟨src.top+1,σ3,g',μ',.refl,R.go e' r',p.go e'⟩,?_⟩
   rintro i n σ1 H1 ⟨σ4,g1,μ1,e1,R1,p1⟩
   have s1:=sim i H1 μ1 g1 e1 R1.g
   cases n with
   |zero=>exact p1.elim
   |succ n =>
    unfold forL at p1
    cases ha:src.at' g1 i with
    |none=>rw[ha]at p1;exact p1.elim
    |some od =>
     rw[ha]at p1 s1
     cases od with
     |none=>exact .inl ⟨s1,p1 σ1 H1 μ1 .refl R1⟩
     |some d =>
      dsimp only at p1 s1
      obtain⟨go,yl⟩:=s1
      refine .inr ⟨go,λσ2 H2=>∃σ5 g2 μ2,Ext X.K μ' H' μ2 H2/\Rep X.K ca μ2 σ5 g2 σ2 H2/\PostS X.K ca Φ E H2 μ2 (forL src f m n (i+1) σ5 g2),λσ2 H2 z=>⟨n,Tp n,z⟩,λx H2 y=>?_⟩
      obtain⟨e2,r2,q2⟩:=yl x H2 y
      cases hf:f d σ4 with
      |none=>rw[hf]at p1;exact p1.elim
      |some σ5 =>
       rw[hf]at p1
       dsimp only at p1
       refine⟨σ4,g1,μ1,d,σ5,R1.go e2 r2,q2,hf,λσ6 R6=>⟨σ5,g1,μ1,R6,?_⟩⟩
       cases hb:m σ5 g1 with
       |nx σ7 g7 =>
        rw[hb]at p1
        exact λσ' H3 μ3 e3 R3=>⟨σ7,g7,μ3,(e1.trans e2).trans e3,R3,PostS.go (e2.trans e3) p1⟩
       |ct σ7 g7 =>
        rw[hb]at p1
        exact λσ' H3 μ3 e3 R3=>⟨σ7,g7,μ3,(e1.trans e2).trans e3,R3,PostS.go (e2.trans e3) p1⟩
       |bk σ7 g7 =>
        rw[hb]at p1
        exact λσ' H3 μ3 e3 R3=>p1 σ' H3 μ3 (e2.trans e3) R3
       |rt d7 g7 =>
        rw[hb]at p1
        exact λv H3 μ3 e3 r3 q3=>p1 v H3 μ3 (e2.trans e3) r3 q3
       |raise _ _ _ =>
        rw[hb]at p1
        exact λσ' H3 μ3 e3 R3=>p1 σ' H3 μ3 (e2.trans e3) R3
       |stuck=>rw[hb]at p1;exact p1
  |raise _ _=>rw[hm]at p;exact RaP.stmt R p
  |stuck=>rw[hm]at p;exact p⟩
end
noncomputable def spM(K:Frag)(ca:Nat->Addr)(n:Nat)(F:MF):Sp:=λvs H Q E=>vs.length=n/\∃ds g μ,GRep K ca μ H g/\Dens K μ H vs ds/\match F ds g with
 |.ok d g'=>∀v H' μ',Ext K μ H μ' H'->GRep K ca μ' H' g'->Den K μ' H' v d->Q v H'
 |.raise x g'=>∀H' μ',Ext K μ H μ' H'->GRep K ca μ' H' g'->E (.int x.1 0) x.2 H'
 |.stuck=>False
theorem Qej{K:Frag}{ca:Nat->Addr}{μ:List Addr}{H:Hp}{g:G}{vs:List V}{ds:List D}(N:List Str)(r:GRep K ca μ H g)(q:Dens K μ H vs ds):Rep K ca μ (ds.map some++List.replicate (N.length-vs.length) none) g (L2.start N vs) H:=by
 unfold L2.start
 refine⟨r,?_,λi d h=>?_⟩
 ·rw[UD,UD,Uc,Uc,q.length,U4,U4]
 ·by_cases hi:i<ds.length
  ·rw[UE (by simpa using hi),UA]at h
   cases hd:ds[i]? with
   |none=>rw[hd]at h;cases h
   |some d' =>
    rw[hd]at h;cases h
    obtain⟨v,h1,h2⟩:=q.get hd
    refine⟨v,?_,h2⟩
    rw[UE (by simpa[q.length]using hi),UA,h1];rfl
  ·rw[UH (by simpa using hi),TJ]at h
   split at h <;> cases h
structure FnH(P:Program)(w:World)(K:Frag)(mg:Str->Option Value)(base:Heap)(ca:Nat->Addr)(x:Str)(k n:Nat)(F:MF):Prop where
 ex:∃(f:Addr)(fd:FuncData)(ps:List Str),FnOk P w K mg base (CXW P w ca) k f fd ps (spM K ca n F)/\mg x=some (.ref f)/\keepIn K (.ref f)=true/\Binds K fd ps []
 st:∀ds g,ds.length≠n->F ds g=.stuck
structure MkH(P:Program)(w:World)(K:Frag)(mg:Str->Option Value)(base:Heap)(ca:Nat->Addr)(c:Nat)(x:Str)(k n:Nat)(F:MF):Prop where
 ex:∃(f:Addr)(fd:FuncData)(ps:List Str),FnOk P w K mg base (CXW P w ca) k f fd ps (spM K ca n F)/\Mk K (ca c) f/\mg x=some (.ref (ca c))/\Binds K fd ps []
 st:∀ds g,ds.length≠n->F ds g=.stuck
theorem Qb9(k n:Nat)(m:MS):∀ds g,ds.length≠k->mDef k n m ds g=.stuck:=λds g h=>by unfold mDef;rw[Uh h]
theorem FnH.mono{P:Program}{w:World}{K:Frag}{mg:Str->Option Value}{base:Heap}{ca:Nat->Addr}{x:Str}{j k n:Nat}{F:MF}(h:FnH P w K mg base ca x j n F)(hj:j<=k):FnH P w K mg base ca x k n F:=by
 obtain⟨f,fd,ps,a,b⟩:=h.ex
 exact⟨⟨f,fd,ps,a.mono hj,b⟩,h.st⟩
section
variable{P:Program}{w:World}{K:Frag}{mg:Str->Option Value}{base:Heap}{ca:Nat->Addr}
theorem Qek{N:List Str}{qual:Str}{scope:Scope}{f:Addr}{cd:Value}{A:Around}{outer:List Env}{s:Shared}{H:Hp}{E:XK}{body:List Stmt}{t:TS}(h:PSs (xat (cxOf (CXW P w ca) P w K mg base N qual scope f cd A outer s H E) ca [] (λx _ H'=>E (.int x.1 0) x.2 H')) body t):PSs (cxOf (CXW P w ca) P w K mg base N qual scope f cd A outer s H E) body t:=λpins s1 σ H1 D I q =>
 UM (h pins s1 σ H1 D (Inv.wish I _) q) (λ_ _ z=>SP.unwish (X:=cxOf (CXW P w ca) P w K mg base N qual scope f cd A outer s H E) z) λ_ _ z=>QfB z
theorem QfC{x qual:Str}{st:Stmt}{f:Addr}{fd:FuncData}{N ps:List Str}{k n j:Nat}{m:MS}(F:Fun K x qual st f fd)(S:FnScope N ps (Qe st))(hj:ps.length=j)(hn:N.length-ps.length=n)(h:∀(cdv:Value) (A:Around) (outer:List Env) (s:Shared) (H:Hp) (E:XK),Room k (A.deeper (envOfC qual (Qe st) s.heap.objs.size f cdv)) ->
   PSs3 ca (cxOf (CXW P w ca) P w K mg base N qual (Qe st) f cdv A outer s H E) (Zp st) m):FnOk P w K mg base (CXW P w ca) (k+1) f fd ps (spM K ca j (mDef j n m)):=by
 subst hj
 obtain⟨oc,od,kV,doc,pm,an,cdv,ct,osl,rfl,lk,hcd⟩:=F.ex
 refine QgX lk hcd S (λvs H Q E q=>q.1) λA outer s H vs Q E hr hsp=>?_
 obtain⟨hl,ds,g,μ,r,q,p⟩:=hsp
 refine⟨_,Qek (h cdv A outer s H E hr [] _),ds.map some++List.replicate n none,g,μ,?_,?_⟩
 ·have z:=Qej N r q
  rw[hl,hn]at z
  exact z
 ·unfold mDef at p
  rw[Uf (by rw[<-q.length,hl])]at p
  cases hm:m (ds.map some++List.replicate n none) g with
  |nx σ' g'=>rw[hm]at p;exact λσ'' H' μ' e' R'=>p .non H' μ' e' R'.g .non
  |rt d g'=>rw[hm]at p;exact p
  |bk _ _=>rw[hm]at p;exact p.elim
  |ct _ _=>rw[hm]at p;exact p.elim
  |raise _ _ _=>rw[hm]at p;exact λσ'' H' μ' e' R'=>p H' μ' e' R'.g
  |stuck=>rw[hm]at p;exact p.elim
noncomputable def EK(Φ:XS)(σ:L2.St):XK:=λc l H'=>∀x:Xc,c=.int x.1 0->l=x.2->Φ x σ H'
theorem Qgs{F:MF}{n:Nat}{Φ:XS}{σ:L2.St}{Q:VK}{H:Hp}{μ:List Addr}{vs:List V}{ds:List D}{g:G}(st:∀ds g,ds.length≠n->F ds g=.stuck)(r:GRep K ca μ H g)(q:Dens K μ H vs ds)(p:Post K ca Φ σ Q H μ (F ds g)):spM K ca n F vs H Q (EK Φ σ):=by
 have hl:vs.length=n:=by
  rw[q.length]
  apply Decidable.byContradiction
  intro h
  rw[st ds g h]at p
  exact p
 refine⟨hl,ds,g,μ,r,q,?_⟩
 cases hF:F ds g with
 |ok d g'=>rw[hF]at p;exact p
 |raise x g' =>
  rw[hF]at p
  intro H' μ' e r' y e1 e2
  have:x=y:=by
   obtain⟨a,b⟩:=x
   obtain⟨c,d⟩:=y
   injection e1 with e1
   have e1:(a:Int)=(c:Int):=e1
   have e3:a=c:=by omega
   rw[e3,show b=d from e2]
  rw[<-this]
  exact p H' μ' e r'
 |stuck=>rw[hF]at p;exact p
end
section
variable{X:Cx}{ca:Nat->Addr}{e o:Expr}{es:List Expr}{me mo:ME}{mr:MA}{p pos apos:Pos}{k n:Nat}{F:MF}{pn:List (Addr×Obj)}{Φ:XS}
theorem Qiz{f:Addr}{fd:FuncData}{ps:List Str}{pins:List (Addr×Obj)}{σ:L2.St}{H:Hp}{s:Shared}{Q:VK}{us:List Value}{vs:List V}(G:FnOk X.prog X.w X.K X.mg X.base (CXW X.prog X.w ca) k f fd ps (spM X.K ca n F))(hr:Room k X.A)(hb:Binds X.K fd ps [])(I:Inv (xat X ca pn Φ) pins σ H s)(r:Vals vs us)(h:spM X.K ca n F vs H Q (EK Φ σ)):wpAny (model X.prog X.w) X.A (call (.ref f) us) (EP (xat X ca pn Φ) pins σ Q) (xat X ca pn Φ).xe s:=by
 have hl:(us++[]).length=ps.length:=by rw[U6,<-r.length];exact G.len _ _ _ _ h
 have b:=hb s us I.kIn hl
 rw[U6]at b
 refine Rt (RX (G.run X.A X.stack s H ⟨us,[]⟩ us vs Q (EK Φ σ) hr I.env0 b r h) λres s' hq=>?_)
 cases res with
 |error z=>exact Qee I hq
 |ok fl =>
  cases fl with
  |ret u=>exact I.after hq
  |_=>exact False.elim hq
theorem Qv{x:Str}(h:FnH X.prog X.w X.K X.mg X.base ca x k n F)(hr:Room k X.A)(ha:PA3 ca X (e::es) mr)(hg:Gl X x:=by rfl)(hdb:(x == ("__debug__" : Str))=false:=by decide)(he:starEach (e::es) X.env=(false,eval e X.env)::starEach es X.env:=by rfl)(hpl:(backTo pos (starEach es X.env)).any (·.1)=false:=by rfl):PE3 ca X (.Call (.Name x p) (e::es) [] pos) (Qn F mr):=by
 obtain⟨f,fd,ps,F1,m1,k1,b1⟩:=h.ex
 intro pn Φ pins s σ H Q I ⟨σ3,g,μ,R,q⟩
 refine Rl (YC I hg m1 ?_ hdb)
 have z:upA X.K ca Φ mr σ H λvs H1=>spM X.K ca n F vs H1 Q (EK Φ σ):=YR (QcD R q) λxs H1 ⟨ds,g1,μ1,e1,R1,q1,p1⟩=>Qgs h.st R1.g q1 p1
 refine callWith_K (h₀:=X.base) I.ok.mod.kin k1 (thn (ha pn Φ pos pins s σ H _ I z) λus s1 ⟨vs,H1,I1,r,q1⟩=>⟨I1.kIn,?_⟩) he hpl
 exact Qiz F1 hr b1 I1 r q1
theorem QiA{c:Nat}{x:Str}(h:MkH X.prog X.w X.K X.mg X.base ca c x k n F)(hr:Room (k+1) X.A)(ha:PA3 ca X (e::es) mr)(hg:Gl X x:=by rfl)(hdb:(x == ("__debug__" : Str))=false:=by decide)(he:starEach (e::es) X.env=(false,eval e X.env)::starEach es X.env:=by rfl)(hpl:(backTo pos (starEach es X.env)).any (·.1)=false:=by rfl):PE3 ca X (.Call (.Name x p) (e::es) [] pos) (Qd7 c F mr):=by
 obtain⟨f,fd,ps,F1,m1,k1,b1⟩:=h.ex
 intro pn Φ pins s σ H Q I ⟨σ3,g,μ,R,q⟩
 refine Rl (YC I hg k1 ?_ hdb)
 have z:upA X.K ca Φ mr σ H λvs H1=>∀y dy,H1 y=none->H1 dy=none->dy≠y->spM X.K ca n F (.ref y::vs) (upd (upd H1 dy (.own y)) y (.ins (ca c) dy [])) (λv H2=>v=.non/\Q (.ref y) H2) (EK Φ σ) :=
  YR (QcD R q) λxs H1 ⟨ds,g1,μ1,e1,R1,q1,p1⟩ y dy hy hdy ne=>by
   have hy2:(upd H1 dy (.own y)) y=none:=by rw[Qh (Ne.symm ne)];exact hy
   have ex1:Ext X.K μ1 H1 μ1 (upd H1 dy (.own y)):=QD hdy
   have g2:=R1.g.new (o:=.own y) hdy
   have ex2:Ext X.K μ1 (upd H1 dy (.own y)) (μ1++[y]) (upd (upd H1 dy (.own y)) y (.ins (ca c) dy [])):=QA hy2
   have g3:GRep X.K ca (μ1++[y]) (upd (upd H1 dy (.own y)) y (.ins (ca c) dy [])) (g1++[.ins c []]):=g2.push hy2 ⟨dy,[],Ql,.nil⟩
   have ey:(μ1++[y])[g1.length]?=some y:=by rw[<-R1.g.len];simp
   refine Qgs (Φ:=Φ) (σ:=σ) h.st g3 (.cons (.ref ey) ((q1.mono ex1).mono ex2)) ?_
   cases hF:F (D.ref g1.length::ds) (g1++[.ins c []]) with
   |stuck=>rw[hF]at p1;exact p1.elim
   |raise _ _=>rw[hF]at p1;exact RaP.go (ex1.trans ex2) p1
   |ok d g4 =>
    rw[hF,Res.bind_ok]at p1
    intro v H' μ' e' r' q'
    cases q' with
    |non=>exact⟨rfl,p1 _ H' μ' ((ex1.trans ex2).trans e') r' (.ref (e'.at ey))⟩
    |_=>exact p1.elim
 refine callWith_K (h₀:=X.base) I.ok.mod.kin m1.kp (thn (ha pn Φ pos pins s σ H _ I z) λus s1 ⟨vs,H1,I1,r,q1⟩=>⟨I1.kIn,?_⟩) he hpl
 have hq:=q1 (s1.heap.objs.size+1) s1.heap.objs.size (I1.hok.fresh (Nat.le_succ _)) (I1.hok.fresh (Ul _)) (UK (Tp _))
 have I2:=Inv.made (C:=ca c) I1
 have r2:Vals (V.ref (s1.heap.objs.size+1)::vs) (Value.ref (s1.heap.objs.size+1)::us):=.cons rfl r
 have hl:(Value.ref (s1.heap.objs.size+1)::us++[]).length=ps.length:=by
  have w:=r2.length
  rw[F1.len _ _ _ _ hq]at w
  rw[U6]
  exact w.symm
 have b2:=b1 _ (Value.ref (s1.heap.objs.size+1)::us) I2.kIn hl
 rw[U6]at b2
 refine Rt (Qfv (f:=f) I1.kIn m1.makes m1.init (UT.mp m1.fn) (RX (F1.run _ X.stack _ _ ⟨Value.ref (s1.heap.objs.size+1)::us,[]⟩ (Value.ref (s1.heap.objs.size+1)::us) _ _ (EK Φ σ) (hr.make (ca c) us [])
  (I2.env0.make (ca c) us []) b2 r2 hq) λres s' hq'=>?_))
 cases res with
 |error z=>exact Qee I2 hq'
 |ok fl =>
  cases fl with
  |ret u =>
   obtain⟨v,H',I3,rv,ev,q3⟩:=I2.after hq'
   subst ev
   exact⟨rv,⟨V.ref (s1.heap.objs.size+1),H',I3,rfl,q3⟩⟩
  |_=>exact False.elim hq'
end
section
variable{X:Cx}{ca:Nat->Addr}{tg e:Expr}{me:ME}{mr:MA}{p pos:Pos}
theorem JM{X:Cx}{tg iter:Expr}{t t':TI}(h:PI X tg iter t)(i:∀σ H R,t' σ H R->t σ H R):PI X tg iter t':=λpins s σ H R I q=>h pins s σ H R I (i σ H R q)
theorem Qel(K:Frag)(μ:List Addr)(H:Hp)(lo:Int)(n:Nat):Sim K ca μ H (Zv lo n) (Itr lo n):=by
 intro i H1 μ1 g1 e r
 unfold Zv
 dsimp only
 by_cases h:i<n
 ·rw[Uf h]
  exact⟨h,λx H' y=>by obtain⟨rfl,rfl⟩:=y;exact⟨.refl,r,.int _⟩⟩
 ·rw[Uh h]
  exact RD h
theorem Qg5{K:Frag}{μ:List Addr}{H:Hp}{a:Addr}{vs:List V}{ds:List D}(h:SqT K H a vs)(q:Dens K μ H vs ds):Sim K ca μ H ⟨λ_ i=>some ds[i]?,ds.length⟩ (Itt K a):=by
 intro i H1 μ1 g1 e r
 dsimp only
 cases hd:ds[i]? with
 |none =>
  refine⟨vs,e.tup _ _ h,?_⟩
  rw[q.length]
  exact UZ.mp hd
 |some d =>
  obtain⟨v,h1,h2⟩:=q.get hd
  refine⟨⟨vs,v,e.tup _ _ h,h1⟩,λx H' y=>?_⟩
  obtain⟨rfl,y⟩:=y
  have:=y vs (e.tup _ _ h)
  rw[h1]at this;cases this
  exact⟨.refl,r,h2.mono e⟩
theorem Qg6{K:Frag}{μ:List Addr}{H:Hp}{a:Addr}{n t:Nat}(hn:μ[n]?=some a):Sim K ca μ H ⟨λg i=>(match g[n]? with|some (.lst es)=>some es[i]? | _=>none),t⟩ (Itl K a):=by
 intro i H1 μ1 g1 e r
 dsimp only
 cases hg:g1[n]? with
 |none=>trivial
 |some o =>
  cases o with
  |lst ds =>
   dsimp only
   obtain⟨a',ha',vs,hH,q⟩:=r.addr hg
   rw[e.at hn]at ha';cases ha'
   cases hd:ds[i]? with
   |none =>
    refine⟨vs,.of hH,?_⟩
    rw[q.length]
    exact UZ.mp hd
   |some d =>
    obtain⟨v,h1,h2⟩:=q.get hd
    refine⟨⟨vs,v,.of hH,h1⟩,λx H' y=>?_⟩
    obtain⟨rfl,y⟩:=y
    have:=y vs (.of hH)
    rw[h1]at this;cases this
    exact⟨.refl,r,h2⟩
  |_=>trivial
theorem QiB{K:Frag}{μ:List Addr}{H:Hp}{a:Addr}{vs:List V}{ds:List D}(h:SqF K H a vs)(q:Dens K μ H vs ds):Sim K ca μ H ⟨λ_ i=>some ds[i]?,ds.length⟩ (Itl K a):=by
 intro i H1 μ1 g1 e r
 dsimp only
 have sq:SqL K H1 a vs:=(e.fl _ _ h).sq
 cases hd:ds[i]? with
 |none =>
  refine⟨vs,sq,?_⟩
  rw[q.length]
  exact UZ.mp hd
 |some d =>
  obtain⟨v,h1,h2⟩:=q.get hd
  refine⟨⟨vs,v,sq,h1⟩,λx H' y=>?_⟩
  obtain⟨rfl,y⟩:=y
  have:=y vs sq
  rw[h1]at this;cases this
  exact⟨.refl,r,h2.mono e⟩
theorem QiC{l:Expr}{tl:TE}(hl:PE X l tl):PI X tg l (λσ H R=>tl σ H λx H1=>(∃a,x=.ref a/\(∃xs,SqL X.K H1 a xs)/\R (Itl X.K a) H1)\/∃a,x=.ref a/\(∃xs,SqT X.K H1 a xs)/\R (Itt X.K a) H1):=by
 intro pins s σ H R I h
 refine thn (hl pins s σ H _ I h) λv s1 ⟨x,H1,I1,r1,q1⟩=>?_
 rcases q1 with⟨a,e,⟨xs,hq⟩,q⟩|⟨a,e,⟨xs,hq⟩,q⟩
 ·subst e
  cases r1
  obtain⟨its,rv,p,hz⟩:=I1.list hq
  refine Wg p.isList ?_
  refine⟨s1.heap.objs.size,[s1.heap.objs.size],_,_,H1,rfl,I1.kept (t':=s1.toks) λb o e=>Ub _ e,QdP a _,⟨_,Ur _ rfl,rfl,rfl⟩,λb hb=>?_,q⟩
  have e:b=s1.heap.objs.size:=by simpa using hb
  subst e
  exact I1.fpOk (Ul _) (I1.hok.fresh (Ul _))
 ·subst e
  cases r1
  obtain⟨its,rv,p,hz⟩:=I1.tuple hq
  refine wpAny_pyIter_tuple (show s1.heap.IsTuple a its.toArray from p) ?_
  refine⟨s1.heap.objs.size,[s1.heap.objs.size],_,_,H1,rfl,I1.kept (t':=s1.toks) λb o e=>Ub _ e,Qda a _,⟨_,Ur _ rfl,rfl,rfl⟩,λb hb=>?_,q⟩
  have e:b=s1.heap.objs.size:=by simpa using hb
  subst e
  exact I1.fpOk (Ul _) (I1.hok.fresh (Ul _))
theorem Zq(he:PE3 ca X e me):PI3 ca X tg e (Qt me) :=
 λpn Φ=>JM (QiC (X:=xat X ca pn Φ) (he pn Φ)) λσ H R hQ=>by
  obtain⟨σ3,g,μ,Rp,p⟩:=hQ
  unfold Qt at p
  refine⟨σ3,g,μ,Rp,?_⟩
  cases hm:me σ3 g with
  |raise _ _=>rw[hm]at p;exact p
  |stuck=>rw[hm]at p;exact p.elim
  |ok d g1 =>
   rw[hm,Res.bind_ok]at p
   intro v H1 μ1 e1 r1 q1
   unfold JG at p
   cases q1 with
   |@tup a vs ds ht hs =>
    exact .inr ⟨a,rfl,⟨vs,ht⟩,p _ H1 μ1 e1 r1 (Qg5 ht hs)⟩
   |@fl a vs ds ht hs=>exact .inl ⟨a,rfl,⟨vs,ht.sq⟩,p _ H1 μ1 e1 r1 (QiB ht hs)⟩
   |@ref n a hn =>
    dsimp only at p
    cases hg:g1[n]? with
    |none=>rw[hg]at p;exact p.elim
    |some o =>
     rw[hg]at p
     obtain⟨a',ha',orp⟩:=r1.addr hg
     rw[hn]at ha';cases ha'
     cases o with
     |lst ds=>obtain⟨vs,hH,q⟩:=orp;exact .inl ⟨a,rfl,⟨vs,.of hH⟩,p _ H1 μ1 e1 r1 (Qg6 hn)⟩
     |_=>exact p.elim
   |_=>exact p.elim
theorem QaI(hm:X.mg "range" = none)(he:PE3 ca X e me)(hg:Gl X "range":=by rfl)(hs:starEach [e] X.env=[(false,eval e X.env)]:=by rfl):PI3 ca X tg (.Call (.Name "range" p) [e] [] pos) (Q9 me) :=
 λpn Φ=>JM (QdQ (X:=xat X ca pn Φ) hg hm (ZY he Qp hs pn Φ) hs) λσ H R hQ=>by
  obtain⟨σ3,g,μ,Rp,p⟩:=hQ
  refine⟨σ3,g,μ,Rp,?_⟩
  unfold Q9 at p
  unfold Qa mNil
  cases hm:me σ3 g with
  |raise _ _=>rw[hm]at p;exact p
  |stuck=>rw[hm]at p;exact p.elim
  |ok d g1 =>
   rw[hm,Res.bind_ok]at p
   rw[Res.bind_ok,Res.bind_ok]
   intro vs H1 μ1 e1 r1 q1
   cases q1 with
   |cons h1 h2 =>
    cases h2
    cases h1 with
    |int j =>
     dsimp only at p
     by_cases hj:inR j
     ·rw[Uf hj]at p
      exact⟨j,rfl,hj.1,hj.2,p _ H1 μ1 e1 r1 (Qel X.K μ1 H1 0 j.toNat)⟩
     ·rw[Uh hj]at p;exact p.elim
    |_=>exact p.elim
end
noncomputable def blk(X:Cx)(scope:Scope)(cl:List (Str×Addr))(C:Addr)(Nb:List Str)(s3:Shared)(H3:Hp)(ex:List Addr):Cx :=
 {X with env:=compEnvC scope cl C X.env,N:=Nb,s₀:=s3,H₀:=H3,outer:=X.stack,stack:=X.stack,ex:=ex,fn:=λ_=>false,pn:=[],xe:=λ_ _=>False}
structure BScope(X:Cx)(scope:Scope)(Nb:List Str)(no:Nat)(cap:List Nat):Prop where
 kind:scope.kind=.function
 cell:∀y∈scope.names,y.2≠.cell
 loc:∀y∈scope.names,y.2=.local->scope.names.lookup y.1=some .local
 free:∀y∈scope.names,y.2=.free->X.env.kindOf y.1=some .cell\/X.env.kindOf y.1=some .free
 len:Nb.length=no+cap.length
 cap:∀(j i:Nat),cap[j]?=some i->∃x,Nb[no+j]?=some x/\X.N[i]?=some x/\scope.names.lookup x=some .free/\Vis X.env.scope x/\X.env.kindOf x≠some .local
noncomputable def clOf(cells:List (Str×Addr)):List (Str×NameKind)->List (Str×Addr)->Option (List (Str×Addr))
 |[],cs=>some cs
 | (n,k)::r,cs=>if (k == .free)=true then (match cells.lookup n with
  |some a=>clOf cells r ((n,a)::cs)
  |none=>none) else clOf cells r cs
theorem Jd{env:Env}:∀(names:List (Str×NameKind))(cs cl:List (Str×Addr)),clOf env.cells names cs=some cl ->
  (forIn names cs λ(x:Str×NameKind)(r:List (Str×Addr))=>(match x with
   | (name,kind)=>if (kind == .free)=true then (do let a <-cellOf env name;pure (ForInStep.yield ((name,a)::r))) else pure (ForInStep.yield r):Sem (ForInStep (List (Str×Addr)))))=(pure cl:Sem (List (Str×Addr)))
 |[],cs,cl,h=>by cases h;rfl
 | (n,k)::r,cs,cl,h=>by
  unfold clOf at h
  rw[RO]
  by_cases hk:(k == .free)=true
  ·rw[Uf hk]at h
   cases hl:env.cells.lookup n with
   |none=>rw[hl]at h;cases h
   |some a =>
    rw[hl]at h
    dsimp only at h ⊢
    rw[Uf hk]
    unfold cellOf
    rw[hl]
    exact Jd r _ cl h
  ·rw[Uh hk]at h
   dsimp only
   rw[Uh hk]
   exact Jd r _ cl h
theorem YT{scope:Scope}{env:Env}{cl:List (Str×Addr)}(h:clOf env.cells scope.names []=some cl):closureFor scope env=pure cl:=by
 have q:=Jd (env:=env) scope.names [] cl h
 unfold closureFor
 exact TU (λt=>t >>= λr=>(pure r:Sem _)) q
theorem YU{cells:List (Str×Addr)}:∀(names:List (Str×NameKind))(cs:List (Str×Addr)),(∀y∈names,y.2=.free->∃c,cells.lookup y.1=some c)->∃cl,clOf cells names cs=some cl
 |[],cs,_=>⟨cs,rfl⟩
 | (n,k)::r,cs,h=>by
  unfold clOf
  by_cases hk:(k == .free)=true
  ·rw[Uf hk]
   obtain⟨c,e⟩:=h (n,k) Up (UT.mp hk)
   rw[show cells.lookup n=some c from e]
   exact YU r _ λy hy=>h y (Uj _ hy)
  ·rw[Uh hk]
   exact YU r _ λy hy=>h y (Uj _ hy)
theorem ZU{cells:List (Str×Addr)}:∀(names:List (Str×NameKind))(cs cl:List (Str×Addr)),clOf cells names cs=some cl->(∀x c,cs.lookup x=some c->cells.lookup x=some c)->∀x c,cl.lookup x=some c->cells.lookup x=some c
 |[],cs,cl,h,hc=>by cases h;exact hc
 | (n,k)::r,cs,cl,h,hc=>by
  unfold clOf at h
  by_cases hk:(k == .free)=true
  ·rw[Uf hk]at h
   cases hl:cells.lookup n with
   |none=>rw[hl]at h;cases h
   |some a =>
    rw[hl]at h
    refine ZU r _ cl h λx c e=>?_
    by_cases z:x=n
    ·subst z
     simp only[List.lookup,UP]at e
     cases e
     exact hl
    ·have zb:(x == n)=false:=Uq.mpr z
     simp only[List.lookup,zb]at e
     exact hc x c e
  ·rw[Uh hk]at h
   exact ZU r _ cl h hc
theorem Jv{cells:List (Str×Addr)}:∀(names:List (Str×NameKind))(cs cl:List (Str×Addr)),clOf cells names cs=some cl->∀x,(x∈names.filterMap λy=>if (y.2 == .free)=true then some y.1 else none)\/(∃c,cs.lookup x=some c)->∃c,cl.lookup x=some c
 |[],cs,cl,h,x,hx=>by
  cases h
  rcases hx with hx|hx
  ·simp at hx
  ·exact hx
 | (n,k)::r,cs,cl,h,x,hx=>by
  unfold clOf at h
  by_cases hk:(k == .free)=true
  ·rw[Uf hk]at h
   cases hl:cells.lookup n with
   |none=>rw[hl]at h;cases h
   |some a =>
    rw[hl]at h
    refine Jv r _ cl h x ?_
    by_cases z:x=n
    ·subst z
     exact .inr ⟨a,by simp[List.lookup]⟩
    ·have zb:(x == n)=false:=Uq.mpr z
     rcases hx with hx|⟨c,hx⟩
     ·rw[Tj]at hx
      simp only[hk,Wd]at hx
      rcases UG.mp hx with e|e
      ·exact absurd e z
      ·exact .inl e
     ·exact .inr ⟨c,by simp only[List.lookup,zb];exact hx⟩
  ·rw[Uh hk]at h
   refine Jv r _ cl h x ?_
   rcases hx with hx|hx
   ·rw[Tj]at hx
    simp only[hk]at hx
    exact .inl (by simpa using hx)
   ·exact .inr hx
theorem JN{names:List (Str×NameKind)}{x:Str}(h:names.lookup x=some .free):x∈names.filterMap λy=>if (y.2 == .free)=true then some y.1 else none :=
 R0.mpr ⟨(x,.free),Tm h,by simp⟩
theorem Yj{env:Env}:∀{names:List (Str×NameKind)}{x:Str}{k:NameKind},(∀y∈names,y.2≠.cell) ->
  (names.map λ(n,k)=>if (k == NameKind.free && env.scope.kind == .function && env.kindOf n == some .cell) then (n,NameKind.cell) else (n,k)).lookup x=some k->(k=.cell\/k=.free)->names.lookup x=some .free
 |[],_,_,_,h,_=>by cases h
 | (n,k0)::r,x,k,hn,h,hk=>by
  have ih:=@Yj env r x k λy hy=>hn y (Uj _ hy)
  rw[UO]at h
  by_cases hc:(k0 == NameKind.free && env.scope.kind == .function && env.kindOf n == some .cell)=true
  ·have k0f:k0=.free:=by
    simp only[UC]at hc
    exact UT.mp hc.1.1
   dsimp only at h
   rw[Uf hc]at h
   cases hx:x == n with
   |true=>simp only[List.lookup,hx];rw[k0f]
   |false=>simp only[List.lookup,hx]at h ⊢;exact ih h hk
  ·dsimp only at h
   rw[Uh hc]at h
   cases hx:x == n with
   |true =>
    simp only[List.lookup,hx]at h ⊢
    cases h
    rcases hk with e|e
    ·exact absurd e (hn (n,k0) Up)
    ·rw[e]
   |false=>simp only[List.lookup,hx]at h ⊢;exact ih h hk
theorem Qbu{prog:Program}{w:World}{A:Around}{R:Result->Shared->Prop}{s:Shared}{elt target iter:Expr}{ifs:List Expr}{scope:Scope}{pos:Pos}{it acc:Value}{env:Env}(I:Nat->Shared->Prop)(turn:∀n s,I n s->wpAny (model prog w) A (pyNext it) (λr s₁=>match r with
   |none=>R (.ok .next) s₁
   |some v=>wpAny (model prog w) A (letOwnedTupleGo target it v) (λ_ s1'=>wpAny (model prog w) A (assign target env v) (λ_ s₂ =>
     wpAny (model prog w) A (forIn ifs true λc r=>if r=true then do let ok <-isTrue c env (eval c env);pure (ForInStep.yield ok) else pure (ForInStep.yield r)) (λok s₃ =>
      if ok=true then wpAny (model prog w) A (eval elt env) (λx s₄ =>
       wpAny (model prog w) A (call (.builtin "list.append") [acc,x]) (λ_ s₅=>∃m,m<n/\I m s₅) (λ_ _=>False) s₄) (λ_ _=>False) s₃
      else ∃m,m<n/\I m s₃) (λ_ _=>False) s₂) (λ_ _=>False) s1') (λ_ _=>False) s₁) (λ_ _=>False) s)(n:Nat)(h:I n s):codeAny (model prog w) A (.compLoop (.ListComp elt [⟨target,iter,ifs,0⟩] scope pos) 0 it acc env) R s:=by
 refine codeAny_loop rfl I (λn s hI=>?_) n h
 show wpAny _ A ((compTurn (.ListComp elt [⟨target,iter,ifs,0⟩] scope pos) 0 it acc env).onRaise (λx=>do noteFrame x env;theTreesLotGoes x)) _ _ s
 refine wpAny_noted ?_
 rw[compTurn_list]
 refine Ua (TF (Ua (UM (turn n s hI) (λr s₁ h₁=>?_) λ_ _ h'=>h'.elim)))
 cases r with
 |none=>exact Uk h₁
 |some v =>
  refine Ua (UM h₁ (λ_ s1' h1'=>?_) λ_ _ h'=>h'.elim)
  refine Ua (UM h1' (λ_ s₂ h₂=>Ua (UM h₂ (λok s₃ h₃=>?_) λ_ _ h'=>h'.elim)) λ_ _ h'=>h'.elim)
  cases ok with
  |false=>exact Uk ⟨rfl,h₃⟩
  |true =>
   exact Ua (Ua (UM h₃ (λx s₄ h₄=>Ua (UM h₄ (λ_ s₅ h₅=>Uk (Uk ⟨rfl,h₅⟩)) λ_ _ h'=>h'.elim)) λ_ _ h'=>h'.elim))
theorem Inv.track{X:Cx}{pins:List (Addr×Obj)}{σ:L2.St}{H:Hp}{s:Shared}{a:Addr}{o:HO}(I:Inv X pins σ H s)(ha:FpOk X pins H a)(new:ObjOk X.prog X.w (upd H a o) s.heap a o):Inv X pins σ (upd H a o) s:=by
 obtain⟨f0,f1,f2,f3,f4,f5⟩:=ha
 have ne:∀b u,H b=some u->b≠a:=λb u e=>Qx e f0
 refine I.step (h':=s.heap) (g':=s.gens) (t':=s.toks) (d':=s.drawn) (ch:=[a]) (λb hb=>?_) (λb o _ _ _ e _=>e) (λb o _ _ _ e _=>⟨o.slots,e⟩) (λb o hb e n=>?_) (λb o _ e=>⟨o,e⟩)
  (λb xs e=>by rw[Qh (ne b _ e)];exact e) (λb o u e=>by rw[Qh (ne b _ e)];exact e) (λb ps e=>⟨#[],by rw[Qh (ne b _ e),e];simp⟩) (λ_ h=>h) (λb u e=>?_) I.bare
 ·have e:b=a:=by simpa using hb
  subst e
  exact⟨f3,f1,f4,f5⟩
 ·rw[Qh (λz=>hb (by simp[z]))];exact n
 ·by_cases hb:b=a
  ·subst hb;rw[Ql]at e;cases e;exact new
  ·rw[Qh hb]at e
   exact(I.hok b u e).stay (λ_ _ _ q=>q) (λc q=>by rw[Qh (ne c _ q)];exact q) λc xs q=>by rw[Qh (ne c _ q)];exact q
theorem FpOk.mono{X:Cx}{pins:List (Addr×Obj)}{H H':Hp}{b:Addr}(h:FpOk X pins H b)(n:H' b=none):FpOk X pins H' b:=⟨n,h.2⟩
noncomputable abbrev F0:XS:=λ_ _ _=>False
theorem noX{α:Type}{M:Model}{A:Around}{X:Cx}{ca:Nat->Addr}{t:Sem α}{Q:α->Shared->Prop}{s:Shared}(h:wpAny M A t Q (XE X ca F0) s):wpAny M A t Q (λ_ _=>False) s:=UM h (λ_ _ z=>z) λ_ _ ⟨_,_,_,_,_,_,_,z⟩=>z
noncomputable def PIf(ca:Nat->Addr)(X:Cx)(ifs:List Expr)(m:MT):Prop :=
 ∀(pins:List (Addr×Obj))(s:Shared)(σ:L2.St)(H:Hp)(Q:Bool->Hp->Prop),Inv (xat X ca [] F0) pins σ H s->upT X.K ca F0 m σ H Q ->
  wpAny (model X.prog X.w) X.A (forIn ifs true λc r=>if r=true then do let ok <-isTrue c X.env (eval c X.env);pure (ForInStep.yield ok) else pure (ForInStep.yield r)) (TP (xat X ca [] F0) pins σ Q) (λ_ _=>False) s
theorem Jr{X:Cx}{ca:Nat->Addr}:PIf ca X [] QP:=by
 intro pins s σ H Q I ⟨_,_,μ,R,p⟩
 rw[Wb]
 exact Uk ⟨H,I,p H μ .refl R.g⟩
section
variable{X:Cx}{ca:Nat->Addr}{pn:List (Addr×Obj)}
theorem QiD{scope:Scope}{Nb:List Str}{no:Nat}{cap:List Nat}{cl:List (Str×Addr)}{pins:List (Addr×Obj)}{σ:L2.St}{H:Hp}{s:Shared}{ex:List Addr}(B:BScope X scope Nb no cap)(hcl:clOf X.env.cells scope.names []=some cl)(I:Inv (xat X ca pn F0) pins σ H s)(hex:∀b∈ex,FpOk (xat X ca pn F0) pins H b)(hlt:∀b∈ex,b<s.heap.objs.size):(xat (blk X scope cl s.heap.objs.size Nb s H ex) ca [] F0).Ok where
 mod:=I.ok.mod
 kind:=B.kind
 glob:=I.ok.glob
 blt:=I.ok.blt
 above:=Ul _
 inj:=λx y c h1 h2=>I.ok.inj x y c (ZU _ _ _ hcl (λ_ _ z=>by cases z) x c h1) (ZU _ _ _ hcl (λ_ _ z=>by cases z) y c h2)
 has:=λx hx=>Jv _ _ _ hcl x (.inl (JN (by
  rcases hx with hx|hx
  ·exact Yj B.cell hx (.inl rfl)
  ·exact Yj B.cell hx (.inr rfl))))
 cab:=λ_ _ z=>by cases z
 hd:=I.ok.hd
 frames:=I.ok.frames
 stk:=.inl rfl
 exf:=λb hb=>⟨UK (hlt b hb),λx c e z=>(hex b hb).2.2.2.2.1 x c (ZU _ _ _ hcl (λ_ _ z=>by cases z) x c e) z⟩
 bs:=I.bs
 bsz:=Uo I.ok.bsz I.sz
 noex:=λb o e hb=>by
  rcases(hex b hb).2.2.2.1 with z|z
  ·exact I.ok.noex b o e z
  ·exact absurd (Uv (Um e) (Uo I.ok.bsz z)) (TD _)
 exfs:=λb hb z=>by
  rcases UG.mp (I.stkSub b z) with e|e
  ·exact(hex b hb).2.1 e
  ·exact(hex b hb).2.2.1 e
 funs:=I.stack
 frf:=I.stkFree
theorem ZZ{env:Env}:∀{names:List (Str×NameKind)}{x:Str},names.lookup x=some .free ->
  (names.map λ(n,k)=>if (k == NameKind.free && env.scope.kind == .function && env.kindOf n == some .cell) then (n,NameKind.cell) else (n,k)).lookup x=some .local->False
 |[],_,h,_=>by cases h
 | (n,k0)::r,x,h,h'=>by
  have ih:=@ZZ env r x
  rw[UO]at h'
  dsimp only at h'
  by_cases hc:(k0 == NameKind.free && env.scope.kind == .function && env.kindOf n == some .cell)=true
  ·rw[Uf hc]at h'
   cases hx:x == n with
   |true=>simp only[List.lookup,hx]at h';cases h'
   |false=>simp only[List.lookup,hx]at h h';exact ih h h'
  ·rw[Uh hc]at h'
   cases hx:x == n with
   |true=>simp only[List.lookup,hx]at h h';rw[h']at h;cases h
   |false=>simp only[List.lookup,hx]at h h';exact ih h h'
theorem QfD{K:Frag}{ca:Nat->Addr}{μ2:List Addr}{σ3:S3}{g1:G}{σ:L2.St}{H2:Hp}(no:Nat)(cap:List Nat)(R2:Rep K ca μ2 σ3 g1 σ H2):Rep K ca μ2 (capt no cap σ3) g1 (List.replicate no none++cap.map λi=>(σ[i]?).getD none) H2:=by
 refine⟨R2.g,?_,λi d h=>?_⟩
 ·unfold capt
  rw[UD,UD,U4,U4,Uc,Uc]
 ·unfold capt at h
  have hi:no<=i:=by
   apply RD
   intro hlt
   rw[UE (by simpa using hlt),TJ,Uf hlt]at h
   cases h
  rw[UH (by simpa using hi),U4,UA]at h ⊢
  cases hcp:cap[i-no]? with
  |none=>rw[hcp]at h;cases h
  |some j =>
   rw[hcp]at h
   have h:(σ3[j]?).getD none=some d:=by simpa using h
   have hs:σ3[j]?=some (some d):=by
    cases z:σ3[j]? with
    |none=>rw[z]at h;cases h
    |some w=>rw[z]at h;have h:w=some d:=h;rw[h]
   obtain⟨v,h1,h2⟩:=R2.st j d hs
   exact⟨v,by simp[h1],h2⟩
theorem Qbv{tg iter elt:Expr}{ifs:List Expr}{scope:Scope}{pos:Pos}{Nb:List Str}{no:Nat}{cap:List Nat}{cl:List (Str×Addr)}{f:MG}{tc:MT}{me:ME}{src:Src}{pins:List (Addr×Obj)}{σ:L2.St}{σ3:S3}{H2:Hp}{s2:Shared}{μ2:List Addr}{g1 g2:G}{ds:List D}{it:Addr}{fp:List Addr}{tn:Nat->Heap->Prop}{J:It}{RR:Value->Addr->Result->Shared->Prop}{E:Value->Shared->Prop}(B:BScope X scope Nb no cap)(hc:X.calm=true)(hb:∀cl C s3 H3 ex,PG3 ca (blk X scope cl C Nb s3 H3 ex) tg f/\PIf ca (blk X scope cl C Nb s3 H3 ex) ifs tc/\PE3 ca (blk X scope cl C Nb s3 H3 ex) elt me)(hcl:clOf X.env.cells scope.names []=some cl)(I2:Inv (xat X ca pn F0) pins σ H2 s2)(T:Turn X.prog X.w X.K tg J fp it tn)(st2:tn 0 s2.heap)(f2:∀b∈fp,FpOk (xat X ca pn F0) pins H2 b)(R2:Rep X.K ca μ2 σ3 g1 σ H2)(sim:Sim X.K ca μ2 H2 src J)(hz:src.top<=SZ)(hL:ZT src f tc me (src.top+1) 0 (capt no cap σ3) g1 []=.ok ds g2)(fin:∀(D C:Addr) (s':Shared) (H4:Hp) (μ4:List Addr) (accV:List V) (its:List Value) (k:Nat),Inv (xat X ca pn F0) pins σ H4 s'->(∃m,s'.heap.Ns C m)->FpOk (xat X ca pn F0) pins H4 C->FpOk (xat X ca pn F0) pins H4 D->D≠C ->
   s'.heap.get? D=some {cls:=.type "list",data:=.seq its.toArray k}->Vals accV its->accV.length<=sizeLine->Ext X.K μ2 H2 μ4 H4->GRep X.K ca μ4 H4 g2->Dens X.K μ4 H4 accV ds->RR (.ref D) C (.ok .next) s'):
  wpAny (model X.prog X.w) X.A (newList []) (λacc s₃=>wpAny (model X.prog X.w) X.A (newFunctionEnv scope X.env.globals cl [] X.env.qual none .none (some X.env)) (λcenv s₄ =>
   codeAny (model X.prog X.w) X.A (.compStart (.ListComp elt [⟨tg,iter,ifs,0⟩] scope pos) 0 (.ref it) acc {cenv with scope:=relabel scope X.env}) (RR acc cenv.locals) s₄) E s₃) E s2:=by
 refine Rx (wpAny_newFunctionEnv B.cell (by intro y hy;simp at hy) (λh₁ hns₁ hsb₁=>?_) B.kind)
 dsimp only at hns₁ hsb₁ ⊢
 generalize hH2:s2.heap.push {cls:=.type "list",dict:=none,data:=.seq ([]:List Value).toArray}=hp at hns₁ hsb₁ ⊢
 have hC:hp.objs.size=s2.heap.objs.size+1:=by rw[<-hH2,Th]
 have I3:Inv (xat X ca pn F0) pins σ H2 {s2 with heap:=hp}:=by rw[<-hH2];exact I2.kept (t':=s2.toks) λb o e=>Ub _ e
 have hD3:hp.get? s2.heap.objs.size=some {cls:=.type "list",data:=.seq ([]:List Value).toArray}:=by rw[<-hH2];exact Ur _ rfl
 have fD:FpOk (xat X ca pn F0) pins H2 s2.heap.objs.size:=I2.fpOk (Ul _) (I2.hok.fresh (Ul _))
 have fC:FpOk (xat X ca pn F0) pins H2 hp.objs.size:=I3.fpOk (Ul _) (I3.hok.fresh (Ul _))
 have fplt:∀b∈fp,b<s2.heap.objs.size:=λb hb=>by
  obtain⟨o,e,_⟩:=T.obj 0 _ st2 b hb
  exact Um e
 have DnF:s2.heap.objs.size∉fp:=λh=>TD _ (fplt _ h)
 have DnC:s2.heap.objs.size≠hp.objs.size:=by rw[hC];exact UK (Tp _)
 have exOk:∀b∈s2.heap.objs.size::fp,FpOk (xat X ca pn F0) pins H2 b:=λb hb=>by
  rcases UG.mp hb with e|e
  ·rw[e];exact fD
  ·exact f2 b e
 have exLt:∀b∈s2.heap.objs.size::fp,b<hp.objs.size:=λb hb=>by
  rcases UG.mp hb with e|e
  ·rw[e,hC];exact Tp _
  ·rw[hC];exact Nat.lt_succ_of_lt (fplt b e)
 have okb:(xat (blk X scope cl hp.objs.size Nb {s2 with heap:=hp} H2 (s2.heap.objs.size::fp)) ca [] F0).Ok:=QiD (s:={s2 with heap:=hp}) B hcl I3 exOk exLt
 obtain⟨hgB,hiB,heB⟩:=hb cl hp.objs.size {s2 with heap:=hp} H2 (s2.heap.objs.size::fp)
 have old:∀b o,hp.get? b=some o->h₁.get? b=some o:=λb o e=>hsb₁.extBut b o (UK (Um e)) (Ub _ e)
 -- the block's first state
 have Ib:Inv (xat (blk X scope cl hp.objs.size Nb {s2 with heap:=hp} H2 (s2.heap.objs.size::fp)) ca [] F0) [] (List.replicate no none++cap.map λi=>(σ[i]?).getD none) H2 {s2 with heap:=h₁,toks:=s2.toks+([]:List (Str×Value)).length}:=by
  refine⟨okb,rfl,I3.bare,Un.kept old,⟨_,hns₁,λi x v h1 h2 h3=>?_⟩,λx c e=>?_,fC.1,λx c e=>?_,λp hp=>absurd (show p∈([]:List (Addr×Obj)) from hp) (by simp),I3.hok.kept old,?_⟩
  ·have hi:no<=i:=by
    apply RD
    intro hlt
    rw[UE (by simpa using hlt),TJ,Uf hlt]at h2
    cases h2
   rw[UH (by simpa using hi),U4,UA]at h2
   cases hcp:cap[i-no]? with
   |none=>rw[hcp]at h2;cases h2
   |some j =>
    rw[hcp]at h2
    have h2:(σ[j]?).getD none=some v:=by simpa using h2
    have hs:σ[j]?=some (some v):=by
     cases z:σ[j]? with
     |none=>rw[z]at h2;cases h2
     |some w=>rw[z]at h2;have h2:w=some v:=h2;rw[h2]
    obtain⟨y,n1,n2,n3,n4,n5⟩:=B.cap (i-no) j hcp
    have e0:no+(i-no)=i:=by omega
    rw[e0]at n1
    have h1:Nb[i]?=some x:=h1
    have hxy:y=x:=Option.some.inj (n1.symm.trans h1)
    subst hxy
    obtain⟨m,hn,hl⟩:=I3.loc
    obtain⟨u,ru,lk⟩:=hl j y v n2 hs n4
    refine⟨u,ru,.inr ⟨?_,?_⟩⟩
    ·rcases h3 with z|z|z
     ·exact(ZZ n3 z).elim
     ·exact .inl z
     ·exact .inr z
    ·rcases lk with⟨k1,_⟩|⟨_,c,k2,k3⟩
     ·exact absurd k1 n5
     ·obtain⟨c',hc'⟩:=Jv _ _ _ hcl y (.inl (JN n3))
      have:=ZU _ _ _ hcl (λ_ _ z=>by cases z) y c' hc'
      have k2:X.env.cells.lookup y=some c:=k2
      have hcc:c'=c:=Option.some.inj (this.symm.trans k2)
      subst hcc
      exact⟨c',hc',k3.keeps old⟩
  ·obtain⟨v,z⟩:=I3.cell x c (ZU _ _ _ hcl (λ_ _ z=>by cases z) x c e)
   exact⟨v,z.keeps old⟩
  ·exact I3.freeC x c (ZU _ _ _ hcl (λ_ _ z=>by cases z) x c e)
  ·rw[UD,U4,Uc];exact B.len.symm
 have RbR:=QfD no cap R2
 have eK:(xat (blk X scope cl hp.objs.size Nb {s2 with heap:=hp} H2 (s2.heap.objs.size::fp)) ca [] F0).K=X.K:=rfl
 have eP:(xat (blk X scope cl hp.objs.size Nb {s2 with heap:=hp} H2 (s2.heap.objs.size::fp)) ca [] F0).prog=X.prog:=rfl
 have eW:(xat (blk X scope cl hp.objs.size Nb {s2 with heap:=hp} H2 (s2.heap.objs.size::fp)) ca [] F0).w=X.w:=rfl
 have eA:(xat (blk X scope cl hp.objs.size Nb {s2 with heap:=hp} H2 (s2.heap.objs.size::fp)) ca [] F0).A=X.A:=rfl
 have eE:(xat (blk X scope cl hp.objs.size Nb {s2 with heap:=hp} H2 (s2.heap.objs.size::fp)) ca [] F0).env=compEnvC scope cl hp.objs.size X.env:=rfl
 have eC:(xat (blk X scope cl hp.objs.size Nb {s2 with heap:=hp} H2 (s2.heap.objs.size::fp)) ca [] F0).calm=true:=hc
 have eX:∀b∈s2.heap.objs.size::fp,b∈(xat (blk X scope cl hp.objs.size Nb {s2 with heap:=hp} H2 (s2.heap.objs.size::fp)) ca [] F0).ex:=λb hb=>hb
 have eN:∀{pl:List (Addr×Obj)}{p:Addr×Obj},p∈(xat (blk X scope cl hp.objs.size Nb {s2 with heap:=hp} H2 (s2.heap.objs.size::fp)) ca [] F0).pn++pl->p∈pl:=λh=>h
 have toUn:∀{pl:List (Addr×Obj)}{σ':L2.St}{H':Hp}{s':Shared},Inv (xat (blk X scope cl hp.objs.size Nb {s2 with heap:=hp} H2 (s2.heap.objs.size::fp)) ca [] F0) pl σ' H' s'->Un (frs (xat X ca pn F0).stack) (s2.heap.objs.size::fp) H2 H' hp s'.heap:=λI=>I.base
 have toOs:∀{pl:List (Addr×Obj)}{σ':L2.St}{H':Hp}{s':Shared},Inv (xat (blk X scope cl hp.objs.size Nb {s2 with heap:=hp} H2 (s2.heap.objs.size::fp)) ca [] F0) pl σ' H' s'->s'.os=s2.os:=λI=>I.os
 generalize blk X scope cl hp.objs.size Nb {s2 with heap:=hp} H2 (s2.heap.objs.size::fp)=Xb at okb hgB hiB heB Ib eK eP eW eA eE eC eX eN toUn toOs
 -- the iterator's records,through the block
 have FpB:∀{H:Hp}{pl:List (Addr×Obj)},(∀b∈fp,H b=none)->(∀p∈pl,p.1∉fp)->∀b∈fp,FpOk (xat Xb ca [] F0) pl H b:=λ{H pl} hn hpl b hb=>by
  have e0:=okb.exf b (eX b (Uj _ hb))
  refine⟨hn b hb,e0.1,?_,.inl (eX b (Uj _ hb)),e0.2,λp hp z=>?_⟩
  ·exact okb.exfs b (eX b (Uj _ hb))
  ·have hp':p∈pl:=eN hp
   exact hpl p hp' (z ▸ hb)
 have FpD:∀{H:Hp},H s2.heap.objs.size=none->FpOk (xat Xb ca [] F0) [] H s2.heap.objs.size:=λ{H} hn=>by
  have e0:=okb.exf s2.heap.objs.size (eX _ Up)
  refine⟨hn,e0.1,?_,.inl (eX _ Up),e0.2,λp hp=>?_⟩
  ·exact okb.exfs s2.heap.objs.size (eX _ Up)
  ·exact absurd (eN hp) (by simp)
 have st4:tn 0 h₁:=T.keep _ _ _ st2 λb hb o e=>old b o (by rw[<-hH2];exact Ub _ e)
 -- the invariant
 have loop:∀s4:Shared,s4 = {s2 with heap:=h₁,toks:=s2.toks+([]:List (Str×Value)).length} ->
   codeAny (model X.prog X.w) X.A (.compLoop (.ListComp elt [⟨tg,iter,ifs,0⟩] scope pos) 0 (.ref it) (.ref s2.heap.objs.size) (compEnvC scope cl hp.objs.size X.env)) (RR (.ref s2.heap.objs.size) hp.objs.size) s4:=by
  rintro s4 rfl
  refine Qbu (λn s'=>∃(i:Nat)(σ4:S3)(g4:G)(μ4:List Addr)(σ5:L2.St)(H4:Hp)(acc:List D)(accV:List V)(its:List Value)(k:Nat),Inv (xat Xb ca [] F0) [] σ5 H4 s'/\tn i s'.heap/\(∀b∈fp,H4 b=none)/\H4 s2.heap.objs.size=none /\
   s'.heap.get? s2.heap.objs.size=some {cls:=.type "list",data:=.seq its.toArray k}/\Vals accV its/\Ext X.K μ2 H2 μ4 H4/\Rep X.K ca μ4 σ4 g4 σ5 H4/\Dens X.K μ4 H4 accV acc/\ZT src f tc me n i σ4 g4 acc=.ok ds g2 /\
   acc.length<=i/\i+n<=SZ+1) ?_ (src.top+1) ⟨0,capt no cap σ3,g1,μ2,_,H2,[],[],[],_,Ib,st4,λb hb=>(f2 b hb).1,fD.1,old _ _ hD3,.nil,.refl,RbR,.nil,hL,Ul _,by omega⟩
  rintro n s5 ⟨i,σ4,g4,μ4,σ5,H4,acc,accV,its,k,I5,st5,fr5,frD,hD5,va,e5,R5,da,hl5,ha5,hn5⟩
  cases n with
  |zero=>cases hl5
  |succ n =>
   unfold ZT at hl5
   have s1:=sim i H4 μ4 g4 e5 R5.g
   have pinD:Inv (xat Xb ca [] F0) [(s2.heap.objs.size,{cls:=.type "list",data:=.seq its.toArray k})] σ5 H4 s5:=I5.pins_of λp hp=>by
    rw[Ug.mp hp]
    have z:=FpD frD
    exact⟨hD5,frD,z.2.1,z.2.2.1,λv q=>by cases q⟩
   have nofp:∀p∈[(s2.heap.objs.size,({cls:=.type "list",data:=.seq its.toArray k}:Obj))],p.1∉fp:=λp hp=>by rw[Ug.mp hp];exact DnF
   have getD:∀{σ':L2.St}{H':Hp}{s':Shared}{pl:List (Addr×Obj)},Inv (xat Xb ca [] F0) ([(s2.heap.objs.size,({cls:=.type "list",data:=.seq its.toArray k}:Obj))]++pl) σ' H' s'->s'.heap.get? s2.heap.objs.size=some {cls:=.type "list",data:=.seq its.toArray k}/\H' s2.heap.objs.size=none:=λ{σ' H' s' pl} I'=>by
    have z:=I'.pin (s2.heap.objs.size,{cls:=.type "list",data:=.seq its.toArray k}) (Uu _ (UY _ (Ug.mpr rfl)))
    exact⟨z.1,z.2.1⟩
   cases hat:src.at' g4 i with
   |none=>rw[hat]at hl5;cases hl5
   |some od =>
    rw[hat]at hl5 s1
    cases od with
    |none =>
     cases hl5
     have dn:=T.done (xat Xb ca [] F0) eP eW eK eC i _ s5 σ5 H4 (λ_ _=>False) pinD (FpB fr5 nofp) st5 s1
     rw[eA]at dn
     refine thn dn λr s6 ⟨hr,I6⟩=>?_
     subst hr
     obtain⟨hD6,frD6⟩:=getD (pl:=[]) (by rw[U6];exact I6)
     have un:Un (frs (xat X ca pn F0).stack) (s2.heap.objs.size::fp) H2 H4 hp s6.heap:=toUn I6
     have hok:HOk (xat X ca pn F0).prog (xat X ca pn F0).w H4 s6.heap:=by have:=I6.hok;rw[eP,eW]at this;exact this
     have os:s6.os=s2.os:=toOs I6
     have I7:Inv (xat X ca pn F0) pins σ H4 s6:=Inv.call' (s':=s6) (ch:=s2.heap.objs.size::fp) I3 os un hok I6.bare λb hb=>⟨(exOk b hb).2.2.2.1,(exOk b hb).2.1,(exOk b hb).2.2.2.2.1,(exOk b hb).2.2.2.2.2⟩
     have hCn:H4 hp.objs.size=none:=by have:=I6.free;rw[eE]at this;exact this
     have nsC:∃m,s6.heap.Ns hp.objs.size m:=by obtain⟨m,hm,_⟩:=I6.loc;rw[eE]at hm;exact⟨m,hm⟩
     refine fin _ _ s6 H4 μ4 accV its k I7 nsC (FpOk.mono fC hCn) (FpOk.mono fD frD6) DnC hD6 va ?_ e5 R5.g da
     rw[da.length]
     have:=ZD
     omega
    |some d =>
     obtain⟨go,yl⟩:=s1
     dsimp only at hl5
     cases hf:f d σ4 with
     |none=>rw[hf]at hl5;cases hl5
     |some σ6 =>
      rw[hf]at hl5
      dsimp only at hl5
      have im:=T.item (xat Xb ca [] F0) eP eW eK eC i _ s5 σ5 H4 (λ_ _=>False) pinD (FpB fr5 nofp) st5 go
      rw[eA]at im
      refine thn im λr s6 ⟨u,hr,h6⟩=>?_
      subst hr
      refine thn h6 λ_ s7 ⟨x,H7,I7,r7,y7,st7,fr7⟩=>?_
      obtain⟨e7,g7,q7⟩:=yl x H7 y7
      have I7':=I7.pinned (FpB fr7 nofp) (T.obj _ _ st7)
      have R7:=R5.go e7 g7
      have asg:=hgB [] F0 _ s7 σ5 H7 x u (λσ' H'=>H'=H7/\Rep X.K ca μ4 σ6 g4 σ' H7) I7' r7 (by
       have:Xb.K=X.K:=eK
       rw[this]
       exact⟨σ4,g4,μ4,d,σ6,R7,q7,hf,λσ' R'=>⟨rfl,R'⟩⟩)
      rw[eP,eW,eA,eE]at asg
      refine thn (noX asg) λ_ s8 ⟨σ8,H8,I8,e8,R8⟩=>?_
      subst e8
      cases ht:tc σ6 g4 with
      |raise _ _=>rw[ht]at hl5;cases hl5
      |stuck=>rw[ht]at hl5;cases hl5
      |ok b g9 =>
       rw[ht]at hl5
       have hl5:(if b=true then (match me σ6 g9 with | .ok y g2=>ZT src f tc me n (i+1) σ6 g2 (acc++[y])|_=>.stuck) else ZT src f tc me n (i+1) σ6 g9 acc)=.ok ds g2:=hl5
       have tst:=hiB _ s8 σ8 _ (λb' H'=>b'=b/\∃μ9,Ext X.K μ4 H8 μ9 H'/\Rep X.K ca μ9 σ6 g9 σ8 H') I8 (by
        have:Xb.K=X.K:=eK
        rw[this]
        refine⟨σ6,g4,μ4,R8,?_⟩
        rw[ht]
        exact λH' μ' e' r'=>⟨rfl,μ',e',R8.go e' r'⟩)
       have eP':Xb.prog=X.prog:=eP
       have eW':Xb.w=X.w:=eW
       have eA':Xb.A=X.A:=eA
       have eE':Xb.env=compEnvC scope cl hp.objs.size X.env:=eE
       rw[eP',eW',eA',eE']at tst
       refine thn tst λok s9 ⟨H9,I9,eb,μ9,e9,R9⟩=>?_
       subst eb
       have again:∀{σ':L2.St}{H':Hp}{s':Shared},Inv (xat Xb ca [] F0) ([(s2.heap.objs.size,({cls:=.type "list",data:=.seq its.toArray k}:Obj))]++Qbd fp s7.heap) σ' H' s'->Inv (xat Xb ca [] F0) [] σ' H' s'/\tn (i+1) s'.heap/\∀b∈fp,H' b=none:=λ{σ' H' s'} I'=>by
        refine⟨I'.pins_of λp hp=>absurd hp (by simp),T.keep _ _ _ st7 λb hb o e=>(I'.pin (b,o) (Uu _ (Uu _ (Ys hb e)))).1,λb hb=>?_⟩
        obtain⟨o,e,_⟩:=T.obj _ _ st7 b hb
        exact(I'.pin (b,o) (Uu _ (Uu _ (Ys hb e)))).2.1
       cases ok with
       |false =>
        rw[Uh Ud]at hl5 ⊢
        obtain⟨J1,J2,J3⟩:=again I9
        obtain⟨K1,K2⟩:=getD I9
        refine⟨n,Tp n,i+1,σ6,g9,μ9,σ8,H9,acc,accV,its,k,J1,J2,J3,K2,K1,va,(e5.trans e7).trans e9,R9,(da.mono e7).mono e9,hl5,by omega,by omega⟩
       |true =>
        rw[Uf rfl]at hl5 ⊢
        cases hm:me σ6 g9 with
        |raise _ _=>rw[hm]at hl5;cases hl5
        |stuck=>rw[hm]at hl5;cases hl5
        |ok y g10 =>
         rw[hm]at hl5
         have hl5:ZT src f tc me n (i+1) σ6 g10 (acc++[y])=.ok ds g2:=hl5
         have el:=heB [] F0 _ s9 σ8 H9 (λvy H'=>∃μ10,Ext X.K μ9 H9 μ10 H'/\Rep X.K ca μ10 σ6 g10 σ8 H'/\Den X.K μ10 H' vy y) I9 (by
          have:Xb.K=X.K:=eK
          rw[this]
          refine⟨σ6,g9,μ9,R9,?_⟩
          rw[hm]
          exact λv H' μ' e' r' q'=>⟨μ',e',R9.go e' r',q'⟩)
         rw[eP,eW,eA,eE]at el
         refine thn (noX el) λuy s10 ⟨vy,H10,I10,ry,μ10,e10,R10,qy⟩=>?_
         obtain⟨K1,K2⟩:=getD I10
         obtain⟨J1,J2,J3⟩:=again I10
         have hlen:its.length=acc.length:=by rw[<-va.length,da.length]
         refine RH F.slot_list_append ⟨_,K1,rfl⟩ F.entry_list_append (F.args_list_append_2 _ _) (PySem.list_append s2.heap.objs.size its.toArray k uy (by rw[Us,Tc];have:SZ=1000000:=rfl;omega)) ⟨K1,?_⟩
         have up:=PySem.IsL.update K1 (·.push uy)
         rw[show its.toArray.push uy=(its++[uy]).toArray by simp]at up
         have upo:∀b o,b≠s2.heap.objs.size->s10.heap.get? b=some o->(s10.heap.update s2.heap.objs.size (Obj.mapSeq (·.push uy))).get? b=some o:=λb o hb e=>(U1 s10.heap (Obj.mapSeq (·.push uy)) (Ne.symm hb)).trans e
         obtain⟨d0,d1,d2,d3,d4,d5⟩:=FpD K2
         refine⟨n,Tp n,i+1,σ6,g10,μ10,σ8,H10,acc++[y],accV++[vy],its++[uy],_,J1.turned (t':=s10.toks) upo d0 d1 d3 d4 d5,T.keep _ _ _ J2 λb hb o e=>upo b o (λz=>DnF (z ▸ hb)) e,J3,K2,up,va.append (.cons ry .nil),
          ((e5.trans e7).trans e9).trans e10,R10,((da.mono e7).mono e9).mono e10 |>.append (.cons qy .nil),hl5,by rw[UD,RB];omega,by omega⟩
 exact codeAny_compStart_list (loop _ rfl) (T.self _ 0 _ _ _ st4 (loop _ rfl))
end
section
variable{X:Cx}{ca:Nat->Addr}
theorem QfE{K:Frag}{Φ:XS}{σ:L2.St}{Q:VK}{H:Hp}{μ:List Addr}{mi:MI}{no:Nat}{cap:List Nat}{f:MG}{tc:MT}{me:ME}{σ3:S3}{g:G}(p:Post K ca Φ σ Q H μ (Zm mi no cap f tc me σ3 g)):
  ∃src g1 ds g2,mi σ3 g=.ok src g1/\src.top<=SZ/\ZT src f tc me (src.top+1) 0 (capt no cap σ3) g1 []=.ok ds g2/\Post K ca Φ σ Q H μ (.ok (.ref g2.length) (g2++[.lst ds])):=by
 unfold Zm at p
 cases hm:mi σ3 g with
 |raise _ _=>rw[hm]at p;exact p.elim
 |stuck=>rw[hm]at p;exact p.elim
 |ok src g1 =>
  rw[hm]at p
  dsimp only at p
  by_cases hz:src.top<=SZ
  ·rw[Uf hz]at p
   cases hL:ZT src f tc me (src.top+1) 0 (capt no cap σ3) g1 []with
   |raise _ _=>rw[hL]at p;exact p.elim
   |stuck=>rw[hL]at p;exact p.elim
   |ok ds g2=>rw[hL]at p;exact⟨src,g1,ds,g2,rfl,hz,hL,p⟩
  ·rw[Uh hz]at p;exact p.elim
theorem YV{tg iter elt:Expr}{ifs:List Expr}{scope:Scope}{pos:Pos}{Nb:List Str}{no:Nat}{cap:List Nat}{mi:MI}{f:MG}{tc:MT}{me:ME}(B:BScope X scope Nb no cap)(hc:X.calm=true)(hi:PI3 ca X tg iter mi)(hb:∀cl C s3 H3 ex,PG3 ca (blk X scope cl C Nb s3 H3 ex) tg f/\PIf ca (blk X scope cl C Nb s3 H3 ex) ifs tc/\PE3 ca (blk X scope cl C Nb s3 H3 ex) elt me)(hs:∀x,foldedSetIterable iter X.env x=pure x:=by intro _;rfl):PE3 ca X (.ListComp elt [⟨tg,iter,ifs,0⟩] scope pos) (Zm mi no cap f tc me):=by
 intro pn Φ pins s σ H Q I' ⟨σ3,g,μ,R,p⟩
 obtain⟨src,g1,ds,g2,hm,hz,hL,p⟩:=QfE p
 have I:Inv (xat X ca pn F0) pins σ H s:=Inv.wish I' _
 suffices hh:wpAny (model X.prog X.w) X.A (eval (.ListComp elt [⟨tg,iter,ifs,0⟩] scope pos) X.env) (EP (xat X ca pn F0) pins σ Q) (λ_ _=>False) s from
  UM hh (λu s' ⟨v,H',J,r,q⟩=>⟨v,H',Inv.wish J _,r,q⟩) λ_ _ z=>z.elim
 obtain⟨cl,hcl⟩:=YU (cells:=X.env.cells) scope.names [] λy hy hf=>I.ok.has y.1 (B.free y hy hf)
 rw[eval_ListComp]
 refine wpAny_comprehension_free (env:=X.env) (use:=none) rfl hs (YT hcl) B.kind B.loc ?_
 refine thn (noX (hi pn F0 pins s σ H (λJ H'=>∃μ',Ext X.K μ H μ' H'/\GRep X.K ca μ' H' g1/\Sim X.K ca μ' H' src J) I ⟨σ3,g,μ,R,?_⟩)) λv s1 h1=>thn (noX h1) λitv s2 h2=>?_
 ·rw[hm]
  exact λJ H' μ' e r sm=>⟨μ',e,r,sm⟩
 ·obtain⟨it,fp,tn,J,H2,e,I2,T,st2,f2,μ2,e2,r2,sim⟩:=h2
  subst e
  refine Qbv (X:=X) (pn:=pn) (RR:=λacc C=>compPost (model X.prog X.w) X.A (λ_ _=>False) none (EP (xat X ca pn F0) pins σ Q) acc C) B hc hb hcl I2 T st2 f2 (R.go e2 r2) sim hz hL ?_
  intro D C s' H4 μ4 accV its k I4 nsC fC fD dc hD va hl e4 r4 da
  obtain⟨m,nsC⟩:=nsC
  refine⟨m,nsC,λh'' hs''=>?_⟩
  have I5:Inv (xat X ca pn F0) pins σ H4 {s' with heap:=h''}:=I4.turned (t':=s'.toks) (λb o hb e=>hs''.extBut b o hb e) fC.1 fC.2.1 fC.2.2.2.1 fC.2.2.2.2.1 fC.2.2.2.2.2
  have hD':=hs''.extBut _ _ dc hD
  have I6:=Inv.track (o:=.lst accV) I5 fD ⟨hl,its,k,va,hD'⟩
  refine⟨.ref D,_,I6,rfl,p _ _ (μ4++[D]) ((e2.trans e4).trans (QA fD.1)) (r4.push fD.1 ⟨accV,Ql,da.mono (QA fD.1)⟩) (.ref ?_)⟩
  rw[<-r4.len];simp
theorem JO(i:Nat){x:Str}{py spos:Pos}{tg iter elt:Expr}{ifs:List Expr}{scope:Scope}{pos:Pos}{Nb:List Str}{no:Nat}{cap:List Nat}{mi:MI}{f:MG}{tc:MT}{me:ME}(hN:X.N.Nodup)(B:BScope X scope Nb no cap)(hc:X.calm=true)(hi:PI3 ca X tg iter mi)(hb:∀cl C s3 H3 ex,PG3 ca (blk X scope cl C Nb s3 H3 ex) tg f/\PIf ca (blk X scope cl C Nb s3 H3 ex) ifs tc/\PE3 ca (blk X scope cl C Nb s3 H3 ex) elt me)(hs:∀x,foldedSetIterable iter X.env x=pure x:=by intro _;rfl)(hn:X.N[i]?=some x:=by rfl)(hx:Loc X.env.scope x:=by first|exact Or.inl rfl|exact Or.inr rfl)(hf:X.fn x=true\/X.env.scope.names.lookup x=some .local:=by first|exact .inl rfl|exact .inr rfl)(hsw:swapsWith (.ListComp elt [⟨tg,iter,ifs,0⟩] scope pos) (some (.Name x py)) spos.line X.env=pure true:=by rfl):
  PS3 ca X (.Assign [.Name x py] (.ListComp elt [⟨tg,iter,ifs,0⟩] scope pos) spos) (mAsg (gSet i) (Zm mi no cap f tc me)):=by
 intro pn Φ pins s σ H En I' ⟨σ3,g,μ,R,p⟩
 have pp:∃src g1 ds g2,mi σ3 g=.ok src g1/\src.top<=SZ/\ZT src f tc me (src.top+1) 0 (capt no cap σ3) g1 []=.ok ds g2/\PostS X.K ca Φ En H μ (.nx (σ3.set i (some (.ref g2.length))) (g2++[.lst ds])):=by
  unfold mAsg Zm gSet at p
  cases hm:mi σ3 g with
  |raise _ _=>rw[hm]at p;exact p.elim
  |stuck=>rw[hm]at p;exact p.elim
  |ok src g1 =>
   rw[hm]at p
   dsimp only at p
   by_cases hz:src.top<=SZ
   ·rw[Uf hz]at p
    cases hL:ZT src f tc me (src.top+1) 0 (capt no cap σ3) g1 []with
    |raise _ _=>rw[hL]at p;exact p.elim
    |stuck=>rw[hL]at p;exact p.elim
    |ok ds g2=>rw[hL]at p;exact⟨src,g1,ds,g2,rfl,hz,hL,p⟩
   ·rw[Uh hz]at p;exact p.elim
 obtain⟨src,g1,ds,g2,hm,hz,hL,p⟩:=pp
 have I:Inv (xat X ca pn F0) pins σ H s:=Inv.wish I' _
 suffices hh:wpAny (model X.prog X.w) X.A (exec (.Assign [.Name x py] (.ListComp elt [⟨tg,iter,ifs,0⟩] scope pos) spos) X.env) (SP (xat X ca pn F0) pins En) (λ_ _=>False) s from
  UM hh (λu s' z=>SP.unwish (X:=xat X ca pn Φ) (E:=(xat X ca pn F0).xe) z) λ_ _ z=>z.elim
 obtain⟨cl,hcl⟩:=YU (cells:=X.env.cells) scope.names [] λy hy hf=>I.ok.has y.1 (B.free y hy hf)
 rw[exec_Assign_Name_used _ _ _ _ hsw]
 refine Ua (TF (Ua ?_))
 show wpAny _ _ (do let _ <-comprehension (.ListComp elt [⟨tg,iter,ifs,0⟩] scope pos) scope X.env _ (newList []) false (eval iter X.env) (some (assign (.Name x py) X.env))) _ _ s
 refine Ua (UM (wpAny_comprehension_free (env:=X.env) (use:=some (assign (.Name x py) X.env)) (Q:=λ_ s'=>SP (xat X ca pn F0) pins En .next s') rfl hs (YT hcl) B.kind B.loc ?_) (λ_ s' hq=>Uk (Uk hq)) λ_ _ e=>e)
 refine thn (noX (hi pn F0 pins s σ H (λJ H'=>∃μ',Ext X.K μ H μ' H'/\GRep X.K ca μ' H' g1/\Sim X.K ca μ' H' src J) I ⟨σ3,g,μ,R,?_⟩)) λv s1 h1=>thn (noX h1) λitv s2 h2=>?_
 ·rw[hm]
  exact λJ H' μ' e r sm=>⟨μ',e,r,sm⟩
 ·obtain⟨it,fp,tn,J,H2,e,I2,T,st2,f2,μ2,e2,r2,sim⟩:=h2
  subst e
  refine Qbv (X:=X) (pn:=pn) (RR:=λacc C=>compPost (model X.prog X.w) X.A (λ_ _=>False) (some (assign (.Name x py) X.env)) (λ_ s'=>SP (xat X ca pn F0) pins En .next s') acc C) B hc hb hcl I2 T st2 f2 (R.go e2 r2) sim hz hL ?_
  intro D C s' H4 μ4 accV its k I4 nsC fC fD dc hD va hl e4 r4 da
  obtain⟨m,oC,es,ep,hoC,hdC,kk⟩:=nsC
  have I4':Inv (xat X ca pn F0) (pins++[(C,oC)]) σ H4 s':=I4.pins_of λq hq=>by
   rcases UB.mp hq with z|z
   ·exact I4.pin q (Uu _ z)
   ·rw[Ug.mp z]
    exact⟨hoC,fC.1,fC.2.1,fC.2.2.1,λv w=>by rw[show oC.data=_ from hdC]at w;cases w⟩
  have fD':FpOk (xat X ca pn F0) (pins++[(C,oC)]) H4 D:=⟨fD.1,fD.2.1,fD.2.2.1,fD.2.2.2.1,fD.2.2.2.2.1,λq hq=>by
   rcases UB.mp hq with z|z
   ·exact fD.2.2.2.2.2 q (UY _ z)
   ·rcases UB.mp z with z|z
    ·exact fD.2.2.2.2.2 q (Uu _ z)
    ·rw[Ug.mp z];exact Ne.symm dc⟩
  have I6:=Inv.track (o:=.lst accV) I4' fD' ⟨hl,its,k,va,hD⟩
  show wpAny (model X.prog X.w) X.A (assign (.Name x py) X.env (.ref D)) _ _ s'
  refine wpAny_assign_Name (Js (X:=xat X ca pn F0) I6 hN hn hx (v:=.ref D) rfl (λs'' I7=>?_) hf)
  have pC:=I7.pin (C,oC) (Uu _ (Uu _ (Ug.mpr rfl)))
  refine⟨m,⟨oC,es,ep,pC.1,hdC,kk⟩,λh'' hs''=>?_⟩
  have I8:Inv (xat X ca pn F0) pins (σ.set i (some (.ref D))) (upd H4 D (.lst accV)) {s'' with heap:=h''} :=
   (I7.pins_of (pins':=pins) λq hq=>I7.pin q (Uu _ (UY _ hq))).turned (t':=s''.toks) (λb o hb e=>hs''.extBut b o hb e) (by rw[Qh (Ne.symm dc)];exact fC.1) fC.2.1 fC.2.2.2.1 fC.2.2.2.2.1 fC.2.2.2.2.2
  refine⟨_,_,I8,p _ _ (μ4++[D]) ((e2.trans e4).trans (QA fD.1)) (Rep.set ((R.go (e2.trans e4) r4).go (QA fD.1) (r4.push (o:=.lst accV) (u:=.lst ds) fD.1 ⟨accV,Ql,da.mono (QA fD.1)⟩)) (.ref ?_) i)⟩
  rw[<-r4.len];simp
end
section
variable{X:Cx}{ca:Nat->Addr}{a b:Expr}{ma mb:ME}{pos:Pos}
theorem QfF:OpR X (binaryOp .Add) (λx y H Q=>∃a b ys,x=.ref a/\y=.ref b/\SqT X.K H a []/\SqT X.K H b ys/\Q (.ref b) H):=by
 intro pins s σ H x y v u Q I rx ry h
 obtain⟨a,b,ys,rfl,rfl,ha,hb,q⟩:=h
 cases rx
 cases ry
 obtain⟨us,r1,p1,_⟩:=I.tuple ha
 obtain⟨ts,r2,p2,_⟩:=I.tuple hb
 cases r1
 obtain⟨⟨cls,dd,data,sl⟩,ho,hc,n,hd⟩:=id p1
 obtain⟨⟨cls2,dd2,data2,sl2⟩,ho2,hc2,n2,hd2⟩:=id p2
 simp only at hc hd hc2 hd2
 subst hc hd hc2 hd2
 exact concat_meets ⟨_,ho,rfl⟩ ⟨_,ho2,rfl⟩ Wr seq_tuple_add Ru Ro (Rf _ _)
   (tuple_addW0 a b _ _ n n2 dd dd2 sl sl2 (by simp)) ⟨ho,ho2,⟨.ref b,H,I,rfl,q⟩⟩
theorem QfG{K:Frag}:Yd K ca (λx y H Q=>((((∃i j,x=.int i/\y=.int j/\Q (.int (i+j)) H)\/(∃i j,x=.str i/\y=.str j/\i.length+j.length<=sizeLine/\Q (.str (i++j)) H))\/Qik K x y H Q)\/rCat x y H Q)\/(∃a b ys,x=.ref a/\y=.ref b/\SqT K H a []/\SqT K H b ys/\Q (.ref b) H)) pAdd:=by
 intro Φ σ H μ g x y dx dy Q r qx qy p
 unfold pAdd at p
 cases qx with
 |int i =>
  cases qy with
  |int j=>exact .inl (.inl (.inl (.inl ⟨i,j,rfl,rfl,p _ H μ .refl r (.int _)⟩)))
  |_=>exact p.elim
 |str s =>
  cases qy with
  |str t =>
   dsimp only at p
   by_cases z:s.length+t.length<=SZ
   ·rw[Uf z]at p
    exact .inl (.inl (.inl (.inr ⟨s,t,rfl,rfl,Uo z ZD,p _ H μ .refl r (.str _)⟩)))
   ·rw[Uh z]at p;exact p.elim
  |_=>exact p.elim
 |@tup ax xs dsx hx hsx =>
  cases qy with
  |@tup ay ys dsy hy hsy =>
   dsimp only at p
   by_cases z:dsx.length+dsy.length<=SZ
   ·rw[Uf z]at p
    by_cases hx0:dsx=[]
    ·subst hx0
     cases hsx
     exact .inr ⟨ax,ay,ys,rfl,rfl,hx,hy,p _ H μ .refl r (.tup hy hsy)⟩
    ·refine .inl (.inl (.inr ⟨ax,ay,xs,ys,rfl,rfl,hx,hy,?_,by rw[hsx.length,hsy.length];exact Uo z ZD,λe=>?_,λ_ t ht=>p _ _ μ (QD ht) (r.new ht) (.tup (.of Ql) ((hsx.append hsy).mono (QD ht)))⟩))
     ·rintro rfl
      cases hsx
      exact hx0 rfl
     ·subst e
      cases hsy
      rw[U6]at p
      exact p _ H μ .refl r (.tup hx hsx)
   ·rw[Uh z]at p;exact p.elim
  |_=>exact p.elim
 |@ref n an hn =>
  cases qy with
  |@ref m am hm =>
   dsimp only at p
   cases hg:g[n]? with
   |none=>rw[hg]at p;exact p.elim
   |some o =>
    cases hg2:g[m]? with
    |none=>rw[hg,hg2]at p;cases o <;> exact p.elim
    |some o2 =>
     rw[hg,hg2]at p
     obtain⟨a1,ha1,or1⟩:=r.addr hg
     obtain⟨a2,ha2,or2⟩:=r.addr hg2
     rw[hn]at ha1;cases ha1
     rw[hm]at ha2;cases ha2
     cases o with
     |lst xs =>
      cases o2 with
      |lst ys =>
       dsimp only at p
       obtain⟨vs,hH,q⟩:=or1
       obtain⟨ws,hH2,q2⟩:=or2
       by_cases z:xs.length+ys.length<=SZ
       ·rw[Uf z]at p
        refine .inl (.inr ⟨an,am,vs,ws,rfl,rfl,hH,hH2,by rw[q.length,q2.length];exact Uo z ZD,λt ht=>p _ _ (μ++[t]) (QA ht) (r.push ht ⟨_,Ql,(q.append q2).mono (QA ht)⟩) (.ref ?_)⟩)
        rw[<-r.len];simp
       ·rw[Uh z]at p;exact p.elim
      |_=>exact p.elim
     |_=>cases o2 <;> exact p.elim
  |_=>exact p.elim
 |_=>cases qy <;> exact p.elim
theorem ZA(ha:PE3 ca X a ma)(hb:PE3 ca X b mb):PE3 ca X (.BinOp a .Add b pos) (mOp2 pAdd ma mb) :=
 Qdj (λ_ _=>(((op_add.or Qdc).or Qg1).or Qip).or QfF) QfG ha hb
theorem Qca{K:Frag}{C:Int->Int->Prop}{h:Int->Int->V}{f:D->D->G->Res D}(hf:∀Φ σ i j g Q H μ,GRep K ca μ H g->Post K ca Φ σ Q H μ (f (.int i) (.int j) g)->C i j/\Q (h i j) H)(hn:∀Φ σ x y g Q H μ,Post K ca Φ σ Q H μ (f x y g)->∃i j,x=.int i/\y=.int j):Yd K ca (rI C h) f:=by
 intro Φ σ H μ g x y dx dy Q r qx qy p
 obtain⟨i,j,rfl,rfl⟩:=hn Φ σ dx dy g Q H μ p
 cases qx
 cases qy
 obtain⟨c,q⟩:=hf Φ σ i j g Q H μ r p
 exact⟨i,j,rfl,rfl,c,q⟩
theorem QcJ{K:Frag}{h:Int->Int->V}{f:D->D->G->Res D}(hf:∀Φ σ i j g Q H μ,GRep K ca μ H g->Post K ca Φ σ Q H μ (f (.int i) (.int j) g)->Q (h i j) H)(hn:∀Φ σ x y g Q H μ,Post K ca Φ σ Q H μ (f x y g)->∃i j,x=.int i/\y=.int j):Yd K ca (rI0 h) f:=by
 intro Φ σ H μ g x y dx dy Q r qx qy p
 obtain⟨i,j,rfl,rfl⟩:=hn Φ σ dx dy g Q H μ p
 cases qx
 cases qy
 exact⟨i,j,rfl,rfl,hf Φ σ i j g Q H μ r p⟩
theorem YW{K:Frag}{f:D->D->G->Res D}(h:∀x y g,(∃i j,x=D.int i/\y=D.int j)\/f x y g=.stuck)(Φ:XS)(σ:L2.St)(x y:D)(g:G)(Q:VK)(H:Hp)(μ:List Addr)(p:Post K ca Φ σ Q H μ (f x y g)):∃i j,x=.int i/\y=.int j:=by
 rcases h x y g with z|z
 ·exact z
 ·rw[z]at p;exact p.elim
theorem QiE(ha:PE3 ca X a ma)(hb:PE3 ca X b mb):PE3 ca X (.BinOp a .Sub b pos) (mOp2 pSub ma mb) :=
 Qdj (λ_ _=>Qic) (QcJ (λΦ σ i j g Q H μ r p=>p _ H μ .refl r (.int _)) (YW λx y g=>by cases x <;> cases y <;> first|exact .inl ⟨_,_,rfl,rfl⟩|exact .inr rfl)) ha hb
theorem Z0(ha:PE3 ca X a ma)(hb:PE3 ca X b mb):PE3 ca X (.BinOp a .FloorDiv b pos) (mOp2 Q7 ma mb) :=
 Qdj (λ_ _=>QgP) (Qca (λΦ σ i j g Q H μ r p=>by
  unfold Q7 at p
  by_cases z:0<j/\j<1073741824
  ·dsimp only at p;rw[Uf z]at p;exact⟨z,p _ H μ .refl r (.int _)⟩
  ·dsimp only at p;rw[Uh z]at p;exact p.elim) (YW λx y g=>by cases x <;> cases y <;> first|exact .inl ⟨_,_,rfl,rfl⟩|exact .inr rfl)) ha hb
theorem ZI(ha:PE3 ca X a ma)(hb:PE3 ca X b mb):PE3 ca X (.BinOp a .Mod b pos) (mOp2 pMod ma mb) :=
 Qdj (λ_ _=>Qid) (Qca (λΦ σ i j g Q H μ r p=>by
  unfold pMod at p
  by_cases z:0<j
  ·dsimp only at p;rw[Uf z]at p;exact⟨z,p _ H μ .refl r (.int _)⟩
  ·dsimp only at p;rw[Uh z]at p;exact p.elim) (YW λx y g=>by cases x <;> cases y <;> first|exact .inl ⟨_,_,rfl,rfl⟩|exact .inr rfl)) ha hb
theorem QfH(s:Str):repS s 1=s:=by
 obtain⟨a⟩:=s
 simp[repS]
theorem QcK(a:Array Nat)(h:a.size=0):∀k,(List.replicate k a).foldl (· ++ ·) #[] = #[]
 |0=>rfl
 |k+1=>by
  have e:a = #[]:=RC h
  subst e
  rw[Tn,List.foldl_cons]
  simpa using QcK #[] rfl k
theorem Qg7:OpR X (binaryOp .Mult) (λx y H Q=>∃s k,x=.str s/\y=.int k/\(1<=k/\k<=10000)/\s.length*k.toNat<=sizeLine/\Q (.str (repS s k.toNat)) H):=by
 intro pins s σ H x y v u Q I rx ry h
 obtain⟨z,k,rfl,rfl,hk,hz,q⟩:=h
 obtain⟨t,rfl⟩:=rx
 obtain⟨t',rfl⟩:=ry
 have fin:∀{y:Str} {t s'},y=repS z k.toNat->Inv X pins σ H s'->EP X pins σ Q (.str y t) s':=λ{y t s'} e I'=>by subst e;exact⟨.str (repS z k.toNat),H,I',⟨t,rfl⟩,q⟩
 have hl:(repS z k.toNat).length=z.length*k.toNat:=by
  show((List.replicate k.toNat z.cps).foldl (· ++ ·) #[]).size=_
  have:∀(m:Nat)(b:Array Nat),((List.replicate m z.cps).foldl (· ++ ·) b).size=b.size+z.cps.size*m:=by
   intro m
   induction m with
   |zero=>intro b;simp
   |succ m ih=>intro b;rw[Tn,List.foldl_cons,ih,Array.size_append,Nat.mul_succ];omega
  rw[this];simp;rfl
 refine PySem.P.mul_str (by simp;omega) (λ_ _=>?_) (λ_ _=>?_) ?_
 ·have h1:z.length<=z.length*k.toNat:=Nat.le_mul_of_pos_right _ (by omega)
  have h2:(922337203685477:Int)<=(2^63-1) / k:=Int.le_ediv_of_mul_le (by omega) (by omega)
  rw[Tc]at hz
  omega
 ·exact Uw (by omega)
 ·rw[Uh (by omega)]
  split
  ·rename_i hc
   refine fin (t:=t) ?_ I
   rcases Rb.mp hc with hc|hc
   ·have:k=1:=UT.mp hc
    subst this;exact(QfH z).symm
   ·have hc:z.cps.size=0:=UT.mp hc
    obtain⟨a⟩:=z
    have e:a = #[]:=RC hc
    subst e
    unfold repS
    rw[QcK _ rfl]
  ·exact⟨by rw[<-hl]at hz;exact hz,fin rfl (I.tok _)⟩
theorem Qcb(ha:PE3 ca X a ma)(hb:PE3 ca X b mb):PE3 ca X (.BinOp a .Mult b pos) (mOp2 pMul ma mb) :=
 Qdj (λ_ _=>op_mul.or Qg7) (λΦ σ H μ g x y dx dy Q r qx qy p=>by
  unfold pMul at p
  cases qx with
  |int i =>
   cases qy with
   |int j =>
    dsimp only at p
    by_cases z:cM i\/cM j
    ·rw[Uf z]at p;exact .inl ⟨i,j,rfl,rfl,z,p _ H μ .refl r (.int _)⟩
    ·rw[Uh z]at p;exact p.elim
   |_=>exact p.elim
  |str s =>
   cases qy with
   |int k =>
    dsimp only at p
    by_cases z:(1<=k/\k<=10000)/\s.length*k.toNat<=SZ
    ·rw[Uf z]at p;exact .inr ⟨s,k,rfl,rfl,z.1,Uo z.2 ZD,p _ H μ .refl r (.str _)⟩
    ·rw[Uh z]at p;exact p.elim
   |_=>exact p.elim
  |_=>cases qy <;> exact p.elim) ha hb
theorem Yt{K:Frag}(r:Int->Int->Bool):Yd K ca (rI0 λi j=>.bl (r i j)) (pCmp r) :=
 QcJ (λΦ σ i j g Q H μ r p=>p _ H μ .refl r (.bl _)) (YW λx y g=>by cases x <;> cases y <;> first|exact .inl ⟨_,_,rfl,rfl⟩|exact .inr rfl)
theorem QjF(ha:PE3 ca X a ma)(hb:PE3 ca X b mb):PT3 ca X (.Compare a [.Lt] [b] pos) (Qk (mOp2 pLt ma mb)):=JJ (λ_ _=>Qig) (Yt _) ha hb (YM b)
theorem QiF(ha:PE3 ca X a ma)(hb:PE3 ca X b mb):PT3 ca X (.Compare a [.Gt] [b] pos) (Qk (mOp2 pGt ma mb)):=JJ (λ_ _=>Qjv) (Yt _) ha hb (YM b)
end
section
variable{ca:Nat->Addr}
theorem Qem{K:Frag}:Yd K ca rEq pEq:=by
 intro Φ σ H μ g x y dx dy Q r qx qy p
 unfold pEq eqT at p
 cases qx with
 |int i =>
  cases qy with
  |int j=>exact⟨rfl,by rw[QaA];exact p _ H μ .refl r (.bl _)⟩
  |_=>exact p.elim
 |str i =>
  cases qy with
  |str j=>exact⟨rfl,by rw[QaB];exact p _ H μ .refl r (.bl _)⟩
  |_=>exact p.elim
 |bl i =>
  cases qy with
  |bl j=>exact⟨rfl,by rw[Qcv];exact p _ H μ .refl r (.bl _)⟩
  |_=>exact p.elim
 |_=>cases qy <;> exact p.elim
theorem JP{K:Frag}{μ:List Addr}{H:Hp}:∀{vs:List V}{ds:List D}{ns:List Int},Dens K μ H vs ds->Qbp ds=some ns->vs=ns.map V.int
 |_,_,ns,.nil,h=>by cases h;rfl
 |_,_,ns,.cons (ds:=ds) h1 h2,h=>by
  cases h1 with
  |int i =>
   unfold Qbp at h
   cases hr:Qbp ds with
   |none=>rw[hr]at h;cases h
   |some ms=>rw[hr]at h;cases h;rw[UO,JP h2 hr]
  |_=>cases h
noncomputable def rNeL(K:Frag):R2:=λx y H Q=>∃(a c:Addr)(is js:List Int),x=.ref a/\y=.ref c/\SqL K H a (is.map V.int)/\SqL K H c (js.map V.int)/\Q (.bl (!decide (is=js))) H
theorem Qgt{X:Cx}(hu:X.A.units+16<cLine):OpR X (compareOp .NotEq) (rNeL X.K):=by
 intro pins s σ H x y v u Q I rx ry h
 obtain⟨a,c,is,js,rfl,rfl,h1,h2,q⟩:=h
 cases rx;cases ry
 obtain⟨us,r1,p1,_⟩:=I.list h1
 obtain⟨ts,r2,p2,_⟩:=I.list h2
 have l1:us.length=is.length:=by rw[<-r1.length,Uc]
 have l2:ts.length=js.length:=by rw[<-r2.length,Uc]
 have key:SeqAt.RcNeAt X.A s (.ref a) (.ref c) (!decide (is=js)):=by
  by_cases hl:is.length=js.length
  ·have k:=SeqAt.RcNeAt.lists (A:=X.A) p1.isList p2.isList (by simp only[Us];omega) (by omega) (e:=λj=>is[j]? == js[j]?) (λj h1 h2=>by
    have z1:j<us.length:=by simpa using h1
    have z2:j<ts.length:=by simpa using h2
    obtain⟨u,hu,t,ru⟩:=r1.get (i:=j) (x:=V.int (is[j]'(by omega))) (by rw[UA,Ue (by omega)];rfl)
    obtain⟨u',hu',t',ru'⟩:=r2.get (i:=j) (x:=V.int (js[j]'(by omega))) (by rw[UA,Ue (by omega)];rfl)
    have w1:us.toArray[j]=Value.int (is[j]'(by omega)) t:=by
     have:us[j]=u:=by simpa[Ue z1]using hu
     simpa[ru]using this
    have w2:ts.toArray[j]=Value.int (js[j]'(by omega)) t':=by
     have:ts[j]=u':=by simpa[Ue z2]using hu'
     simpa[ru']using this
    rw[w1,w2,Ue (show j<is.length by omega),Ue (show j<js.length by omega)]
    exact SeqAt.EqAt.int_int _ _ _ _)
   have e:(List.range us.toArray.size).all (λj=>is[j]? == js[j]?)=decide (is=js):=by
    rw[TW,Ux,TB]
    refine⟨λh=>List.ext_getElem? λj=>?_,λh j _=>by rw[h];simp⟩
    by_cases hj:j<is.length
    ·exact UT.mp (h j (Ry.mpr (by simp only[Us];omega)))
    ·rw[Ta (by omega),Ta (by omega)]
   rw[<-e]
   exact k
  ·have e:decide (is=js)=false:=Uw λz=>hl (by rw[z])
   rw[e]
   exact SeqAt.RcNeAt.lists_lengths p1.isList p2.isList (by simp only[Us,l1,l2];simpa using hl) (by omega)
 exact key _ _ _ _ ⟨.bl _,H,I,rfl,q⟩
theorem Qen{K:Frag}:Yd K ca (λx y H Q=>rNe x y H Q\/rNeL K x y H Q) pNe:=by
 intro Φ σ H μ g x y dx dy Q r qx qy p
 unfold pNe neT at p
 cases qx with
 |non =>
  cases qy with
  |non=>exact .inl ⟨rfl,p _ H μ .refl r (.bl _)⟩
  |int j=>exact .inl ⟨rfl,p _ H μ .refl r (.bl _)⟩
  |_=>exact p.elim
 |int i =>
  cases qy with
  |int j=>exact .inl ⟨rfl,by rw[QaA];exact p _ H μ .refl r (.bl _)⟩
  |non=>exact .inl ⟨rfl,p _ H μ .refl r (.bl _)⟩
  |_=>exact p.elim
 |str i =>
  cases qy with
  |str j=>exact .inl ⟨rfl,by rw[QaB];exact p _ H μ .refl r (.bl _)⟩
  |_=>exact p.elim
 |bl i =>
  cases qy with
  |bl j=>exact .inl ⟨rfl,by rw[Qcv];exact p _ H μ .refl r (.bl _)⟩
  |_=>exact p.elim
 |@ref n a hn =>
  cases qy with
  |@ref m c hm =>
   dsimp only at p
   cases hg:g[n]? with
   |none=>rw[hg]at p;exact p.elim
   |some o1 =>
    cases hg2:g[m]? with
    |none=>rw[hg,hg2]at p;cases o1 <;> exact p.elim
    |some o2 =>
     rw[hg,hg2]at p
     obtain⟨b1,hb1,ob1⟩:=r.addr hg
     obtain⟨b2,hb2,ob2⟩:=r.addr hg2
     rw[hn]at hb1;cases hb1
     rw[hm]at hb2;cases hb2
     cases o1 with
     |lst xs =>
      cases o2 with
      |lst ys =>
       obtain⟨vs,hH1,q1⟩:=ob1
       obtain⟨ws,hH2,q2⟩:=ob2
       dsimp only at p
       cases e1:Qbp xs with
       |none=>rw[e1]at p;exact p.elim
       |some is =>
        cases e2:Qbp ys with
        |none=>rw[e1,e2]at p;exact p.elim
        |some js =>
         rw[e1,e2]at p
         have z1:=JP q1 e1
         have z2:=JP q2 e2
         subst z1 z2
         exact .inr ⟨a,c,is,js,rfl,rfl,.of hH1,.of hH2,p _ H μ .refl r (.bl _)⟩
      |_=>exact p.elim
     |_=>cases o2 <;> exact p.elim
  |_=>exact p.elim
 |_=>cases qy <;> exact p.elim
end
section
variable{X:Cx}{ca:Nat->Addr}{a b e:Expr}{ma mb me:ME}{pos p:Pos}{k:Nat}
theorem r_eq(_:Room k X.A)(ha:PE3 ca X a ma)(hb:PE3 ca X b mb):PE3 ca X (.Compare a [.Eq] [b] pos) (mOp2 pEq ma mb):=Qdk (λ_ _=>Qif) Qem ha hb (YM b)
theorem JQ(_:Room k X.A)(ha:PE3 ca X a ma)(hb:PE3 ca X b mb):PT3 ca X (.Compare a [.Eq] [b] pos) (Qk (mOp2 pEq ma mb)):=JJ (λ_ _=>Qif) Qem ha hb (YM b)
theorem hu16{A:Around}(hr:Room k A):A.units+16<cLine:=by have:=hr.units;omega
theorem r_ne(hr:Room k X.A)(ha:PE3 ca X a ma)(hb:PE3 ca X b mb):PE3 ca X (.Compare a [.NotEq] [b] pos) (mOp2 pNe ma mb):=Qdk (λpn Φ=>op_ne.or (Qgt (X:=xat X ca pn Φ) (hu16 hr))) Qen ha hb (YM b)
theorem Qdl(hr:Room k X.A)(ha:PE3 ca X a ma)(hb:PE3 ca X b mb):PT3 ca X (.Compare a [.NotEq] [b] pos) (Qk (mOp2 pNe ma mb)):=JJ (λpn Φ=>op_ne.or (Qgt (X:=xat X ca pn Φ) (hu16 hr))) Qen ha hb (YM b)
theorem QcL{K:Frag}{μ:List Addr}{H:Hp}{x:V}{d:D}(q:Den K μ H x d):decide (x=.non)=isNon d:=by cases q <;> simp[isNon]
theorem Qeo{K:Frag}:Yd K ca (λx y H Q=>y=.non/\Q (.bl (decide (x=.non))) H) pIs:=by
 intro Φ σ H μ g x y dx dy Q r qx qy p
 cases qy with
 |non=>exact⟨rfl,p _ H μ .refl r (by rw[QcL qx];exact .bl _)⟩
 |_=>exact p.elim
theorem Qdm{K:Frag}:Yd K ca (λx y H Q=>y=.non/\Q (.bl (!decide (x=.non))) H) Qd8:=by
 intro Φ σ H μ g x y dx dy Q r qx qy p
 cases qy with
 |non=>exact⟨rfl,p _ H μ .refl r (by rw[QcL qx];exact .bl _)⟩
 |_=>exact p.elim
theorem r_is(ha:PE3 ca X a ma)(hb:PE3 ca X b mb):PE3 ca X (.Compare a [.Is] [b] pos) (mOp2 pIs ma mb):=Qdk (λ_ _=>Qgn) Qeo ha hb (YM b)
theorem Qg8(ha:PE3 ca X a ma)(hb:PE3 ca X b mb):PT3 ca X (.Compare a [.Is] [b] pos) (Qk (mOp2 pIs ma mb)):=JJ (λ_ _=>Qgn) Qeo ha hb (YM b)
theorem Qg9(ha:PE3 ca X a ma)(hb:PE3 ca X b mb):PE3 ca X (.Compare a [.IsNot] [b] pos) (mOp2 Qd8 ma mb):=Qdk (λ_ _=>QgR) Qdm ha hb (YM b)
theorem QaJ{K:Frag}{μ:List Addr}{H:Hp}{vs:List V}{ds:List D}{i:Int}{d:D}(q:Dens K μ H vs ds)(h:atD ds i=some d):∃v,atI vs i=some v/\Den K μ H v d:=by
 unfold atD at h
 cases hj:ixD ds.length i with
 |none=>rw[hj]at h;cases h
 |some j =>
  rw[hj]at h
  obtain⟨v,h1,h2⟩:=q.get (show ds[j]?=some d from h)
  refine⟨v,?_,h2⟩
  unfold atI
  rw[q.length,show ixN ds.length i=some j from hj]
  exact h1
theorem Qha{K:Frag}:Yd K ca (rIx K) pIx:=by
 intro Φ σ H μ g x y dx dy Q r qx qy p
 unfold pIx at p
 cases qx with
 |tup ht hs =>
  cases qy with
  |int i =>
   dsimp only at p
   rename_i a vs ds
   cases h:atD ds i with
   |none=>rw[h]at p;exact p.elim
   |some d =>
    rw[h]at p
    obtain⟨v,h1,h2⟩:=QaJ hs h
    exact .inr (.inl ⟨a,vs,i,v,rfl,rfl,ht,h1,p v H μ .refl r h2⟩)
  |_=>exact p.elim
 |fl ht hs =>
  cases qy with
  |int i =>
   dsimp only at p
   rename_i a vs ds
   cases h:atD ds i with
   |none=>rw[h]at p;exact p.elim
   |some d =>
    rw[h]at p
    obtain⟨v,h1,h2⟩:=QaJ hs h
    exact .inl ⟨a,vs,i,v,rfl,rfl,ht.sq,h1,p v H μ .refl r h2⟩
  |_=>exact p.elim
 |@ref n a hn =>
  cases qy with
  |int i =>
   dsimp only at p
   cases hg:g[n]? with
   |none=>rw[hg]at p;exact p.elim
   |some o =>
    rw[hg]at p
    obtain⟨a',ha',ob⟩:=r.addr hg
    rw[hn]at ha';cases ha'
    cases o with
    |lst ds =>
     obtain⟨vs,hH,hs⟩:=ob
     dsimp only at p
     cases h:atD ds i with
     |none=>rw[h]at p;exact p.elim
     |some d =>
      rw[h]at p
      obtain⟨v,h1,h2⟩:=QaJ hs h
      exact .inl ⟨a,vs,i,v,rfl,rfl,.of hH,h1,p v H μ .refl r h2⟩
    |_=>exact p.elim
  |_=>exact p.elim
 |str s =>
  cases qy with
  |int i =>
   dsimp only at p
   by_cases z:s.length<=SZ
   ·rw[Uf z]at p
    cases h:atD s.cps.toList i with
    |none=>rw[h]at p;exact p.elim
    |some c =>
     rw[h]at p
     exact .inr (.inr ⟨s,i,c,rfl,rfl,Uo z ZD,h,p _ H μ .refl r (.str _)⟩)
   ·rw[Uh z]at p;exact p.elim
  |_=>exact p.elim
 |_=>cases qy <;> exact p.elim
theorem Qz(ha:PE3 ca X a ma)(hb:PE3 ca X b mb)(hs:Qb1 b:=by exact λ_ _=>rfl):PE3 ca X (.Subscript a b pos) (mOp2 pIx ma mb):=r_ix (λ_ _=>Qim) Qha ha hb hs
theorem QiG{x:Str}{id:String}{r:List V->Hp->VK->Prop}{f:D->G->Res D}(hc:∀pn Φ,CallR (xat X ca pn Φ) (.builtin id) r)(hm:X.mg x=none)(hv:bootBuiltins x=some (.builtin id))(hp:∀(Φ:XS) (σ:L2.St) (H:Hp) (μ:List Addr) (g:G) (y:V) (d:D) (Q:VK),GRep X.K ca μ H g->Den X.K μ H y d->Post X.K ca Φ σ Q H μ (f d g)->r [y] H Q)(he:PE3 ca X e me)(hg:Gl X x)(hn:x ≠ "__name__")(hdb:(x == ("__debug__" : Str))=false)(hs:starEach [e] X.env=[(false,eval e X.env)])(hpl:(backTo pos (starEach [] X.env)).any (·.1)=false):PE3 ca X (.Call (.Name x p) [e] [] pos) (mOp1 f me) :=
 λpn Φ=>QS (Z4 (X:=xat X ca pn Φ) (hc pn Φ) hg hm hv (ZY he Qp hs pn Φ) hn hdb hs hpl) λσ H Q hQ=>by
  obtain⟨σ3,g,μ,R,q⟩:=hQ
  refine⟨σ3,g,μ,R,?_⟩
  unfold mOp1 at q
  unfold Qa mNil
  cases hm:me σ3 g with
  |raise _ _=>rw[hm]at q;exact q
  |stuck=>rw[hm]at q;exact q.elim
  |ok d g1 =>
   rw[hm,Res.bind_ok]at q
   rw[Res.bind_ok,Res.bind_ok]
   intro vs H1 μ1 e1 r1 q1
   cases q1 with
   |cons h1 h2 =>
    cases h2
    exact hp Φ σ H1 μ1 g1 _ d Q r1 h1 (q.go e1)
end
section
variable{X:Cx}{ca:Nat->Addr}{a b e o:Expr}{ma mb me mo:ME}{pos p apos:Pos}{k:Nat}
theorem r_ty{x:Str}{T:String}{r:List V->Hp->VK->Prop}{f:D->G->Res D}(hc:∀pn Φ,CallR (xat X ca pn Φ) (.type T) r)(hm:X.mg x=none)(hv:bootBuiltins x=some (.type T))(hp:∀(Φ:XS) (σ:L2.St) (H:Hp) (μ:List Addr) (g:G) (y:V) (d:D) (Q:VK),GRep X.K ca μ H g->Den X.K μ H y d->Post X.K ca Φ σ Q H μ (f d g)->r [y] H Q)(he:PE3 ca X e me)(hg:Gl X x)(hn:x ≠ "__name__")(hdb:(x == ("__debug__" : Str))=false)(hs:starEach [e] X.env=[(false,eval e X.env)])(hpl:(backTo pos (starEach [] X.env)).any (·.1)=false):PE3 ca X (.Call (.Name x p) [e] [] pos) (mOp1 f me) :=
 λpn Φ=>QS (QdZ (X:=xat X ca pn Φ) (hc pn Φ) hg hm hv (ZY he Qp hs pn Φ) hn hdb hs hpl) λσ H Q hQ=>by
  obtain⟨σ3,g,μ,R,q⟩:=hQ
  refine⟨σ3,g,μ,R,?_⟩
  unfold mOp1 at q
  unfold Qa mNil
  cases hm:me σ3 g with
  |raise _ _=>rw[hm]at q;exact q
  |stuck=>rw[hm]at q;exact q.elim
  |ok d g1 =>
   rw[hm,Res.bind_ok]at q
   rw[Res.bind_ok,Res.bind_ok]
   intro vs H1 μ1 e1 r1 q1
   cases q1 with
   |cons h1 h2 =>
    cases h2
    exact hp Φ σ H1 μ1 g1 _ d Q r1 h1 (q.go e1)
theorem Zr(hm:X.mg "len" = none)(he:PE3 ca X e me)(hg:Gl X "len":=by rfl)(hs:starEach [e] X.env=[(false,eval e X.env)]:=by rfl)(hpl:(backTo pos (starEach [] X.env)).any (·.1)=false:=by rfl):
  PE3 ca X (.Call (.Name "len" p) [e] [] pos) (mOp1 pLen me) :=
 QiG (r:=λxs H Q=>(∃p ys,xs=[V.ref p]/\(SqL X.K H p ys\/SqT X.K H p ys)/\Q (V.int (ys.length:Int)) H)\/∃z,xs=[V.str z]/\z.length<=sizeLine/\Q (V.int (z.length:Int)) H) (λ_ _=>call_len_seq.or Qbm) hm boot_len (λΦ σ H μ g y d Q r q pp=>by
  unfold pLen at pp
  cases q with
  |@tup t vs ds ht hs=>exact .inl ⟨t,vs,rfl,.inr ht,pp _ H μ .refl r (by rw[hs.length];exact .int _)⟩
  |@fl t vs ds ht hs=>exact .inl ⟨t,vs,rfl,.inl ht.sq,pp _ H μ .refl r (by rw[hs.length];exact .int _)⟩
  |@ref n t hn =>
   dsimp only at pp
   cases hgn:g[n]? with
   |none=>rw[hgn]at pp;exact pp.elim
   |some ob =>
    rw[hgn]at pp
    obtain⟨t',ht',orp⟩:=r.addr hgn
    rw[hn]at ht';cases ht'
    cases ob with
    |lst ds=>obtain⟨vs,hH,q⟩:=orp;exact .inl ⟨t,vs,rfl,.inl (.of hH),pp _ H μ .refl r (by rw[q.length];exact .int _)⟩
    |_=>exact pp.elim
  |str s =>
   dsimp only at pp
   by_cases z:s.length<=SZ
   ·rw[Uf z]at pp;exact .inr ⟨s,rfl,Uo z ZD,pp _ H μ .refl r (.int _)⟩
   ·rw[Uh z]at pp;exact pp.elim
  |_=>exact pp.elim) he hg (by decide) (by decide) hs hpl
theorem QaK(hm:X.mg "tuple" = none)(he:PE3 ca X e me)(hg:Gl X "tuple":=by rfl)(hs:starEach [e] X.env=[(false,eval e X.env)]:=by rfl)(hpl:(backTo pos (starEach [] X.env)).any (·.1)=false:=by rfl):
  PE3 ca X (.Call (.Name "tuple" p) [e] [] pos) (mOp1 ZF me) :=
 r_ty (r:=λxs H Q=>∃p ys,xs=[V.ref p]/\((SqL X.K H p ys/\∀l,H l=none->Q (.ref l) (upd H l (.tup ys)))\/(SqT X.K H p ys/\Q (.ref p) H))) (λ_ _=>QaE) hm boot_tuple (λΦ σ H μ g y d Q r q pp=>by
  unfold ZF at pp
  cases q with
  |@tup t vs ds ht hs=>exact⟨t,vs,rfl,.inr ⟨ht,pp _ H μ .refl r (.tup ht hs)⟩⟩
  |@fl t vs ds ht hs=>exact⟨t,vs,rfl,.inl ⟨ht.sq,λl hl=>pp _ _ μ (QD hl) (r.new hl) (.tup (.of Ql) (hs.mono (QD hl)))⟩⟩
  |@ref n t hn =>
   dsimp only at pp
   cases hgn:g[n]? with
   |none=>rw[hgn]at pp;exact pp.elim
   |some ob =>
    rw[hgn]at pp
    obtain⟨t',ht',orp⟩:=r.addr hgn
    rw[hn]at ht';cases ht'
    cases ob with
    |lst ds=>obtain⟨vs,hH,q⟩:=orp;exact⟨t,vs,rfl,.inl ⟨.of hH,λl hl=>pp _ _ μ (QD hl) (r.new hl) (.tup (.of Ql) (q.mono (QD hl)))⟩⟩
    |_=>exact pp.elim
  |_=>exact pp.elim) he hg (by decide) (by decide) hs hpl
theorem Qep(hm:X.mg "list" = none)(he:PE3 ca X e me)(hg:Gl X "list":=by rfl)(hs:starEach [e] X.env=[(false,eval e X.env)]:=by rfl)(hpl:(backTo pos (starEach [] X.env)).any (·.1)=false:=by rfl):
  PE3 ca X (.Call (.Name "list" p) [e] [] pos) (mOp1 Y9 me) :=
 r_ty (r:=λxs H Q=>∃p ys,xs=[V.ref p]/\(SqL X.K H p ys\/SqT X.K H p ys)/\∀l,H l=none->Q (.ref l) (upd H l (.lst ys))) (λ_ _=>Qbn) hm boot_list (λΦ σ H μ g y d Q r q pp=>by
  have el:∀l:Addr,(μ++[l])[g.length]?=some l:=λl=>by rw[<-r.len];simp
  unfold Y9 at pp
  cases q with
  |@fl t vs ds ht hs=>exact⟨t,vs,rfl,.inl ht.sq,λl hl=>pp _ _ (μ++[l]) (QA hl) (r.push hl ⟨vs,Ql,hs.mono (QA hl)⟩) (.ref (el l))⟩
  |@tup t vs ds ht hs=>exact⟨t,vs,rfl,.inr ht,λl hl=>pp _ _ (μ++[l]) (QA hl) (r.push hl ⟨vs,Ql,hs.mono (QA hl)⟩) (.ref (el l))⟩
  |@ref n t hn =>
   dsimp only at pp
   cases hgn:g[n]? with
   |none=>rw[hgn]at pp;exact pp.elim
   |some ob =>
    rw[hgn]at pp
    obtain⟨t',ht',orp⟩:=r.addr hgn
    rw[hn]at ht';cases ht'
    cases ob with
    |lst ds=>obtain⟨vs,hH,q⟩:=orp;exact⟨t,vs,rfl,.inl (.of hH),λl hl=>pp _ _ (μ++[l]) (QA hl) (r.push hl ⟨vs,Ql,q.mono (QA hl)⟩) (.ref (el l))⟩
    |_=>exact pp.elim
  |_=>exact pp.elim) he hg (by decide) (by decide) hs hpl
theorem QaL(ho:PE3 ca X o mo)(he:PE3 ca X e me)(hbase:attributeBase o "append" X.env (eval o X.env)=eval o X.env:=by rfl)(hfew:((backTo pos (starEach [e] X.env)).all (λx=>!x.1) && (backToKw pos (keywordEach [] X.env)).all (λx=>x.1.isSome) && decide ([e].length+([]:List Keyword).length+(if ([]:List Keyword).isEmpty then 0 else 1)<30))=true:=by rfl)(hline:(apos.endLine == pos.line)=true:=by rfl)(hs:starEach [e] X.env=(false,eval e X.env)::starEach [] X.env:=by rfl)(hplain:(backTo pos (starEach [] X.env)).any (·.1)=false:=by rfl):
  PE3 ca X (.Call (.Attribute o "append" apos) [e] [] pos) (Yf mo me) :=
 λpn Φ=>QS (Qg3 (X:=xat X ca pn Φ) Wo PySem.F.slot_list_append PySem.F.type_list_append Qd2 (ho pn Φ) (ZY he Qp hs pn Φ) hbase hfew hline hs hplain) λσ H Q ⟨σ3,g,μ,R,q⟩=>QJ (Yc R q) λx H1 hQ=>by
  obtain⟨d,g1,μ1,e1,R1,q1,p1⟩:=hQ
  cases q1 with
  |@ref n t hn =>
   dsimp only at p1
   cases hgn:g1[n]? with
   |none=>rw[hgn]at p1;exact p1.elim
   |some ob =>
    rw[hgn]at p1
    obtain⟨t',ht',orp⟩:=R1.g.addr hgn
    rw[hn]at ht';cases ht'
    cases ob with
    |lst ds0 =>
     obtain⟨vs0,hH0,_⟩:=orp
     dsimp only at p1
     refine⟨.inl ⟨rfl,_,.of hH0⟩,σ3,g1,μ1,R1,?_⟩
     unfold Qa mNil
     cases hm:me σ3 g1 with
     |raise _ _=>rw[hm]at p1;exact p1
     |stuck=>rw[hm]at p1;exact p1.elim
     |ok y g2 =>
      rw[hm,Res.bind_ok]at p1
      rw[Res.bind_ok,Res.bind_ok]
      intro vs H2 μ2 e2 r2 q2
      cases q2 with
      |@cons vy _ _ _ h1 h2 =>
       cases h2
       cases hg2:g2[n]? with
       |none=>rw[hg2]at p1;exact p1.elim
       |some ob2 =>
        rw[hg2]at p1
        obtain⟨t',ht',orp⟩:=r2.addr hg2
        rw[e2.at hn]at ht';cases ht'
        cases ob2 with
        |lst ds =>
         obtain⟨ws,hH,qs⟩:=orp
         dsimp only at p1
         by_cases z:ds.length<SZ
         ·rw[Uf z]at p1
          have ex:Ext X.K μ2 H2 μ2 (upd H2 t (.lst (ws++[vy]))):=JI hH (by intro _ z;cases z) (by intro _ _ z;cases z)
          refine⟨t,ws,_,rfl,rfl,hH,by rw[qs.length];exact Uv z ZD,p1 _ _ μ2 (e2.trans ex) ?_ .non⟩
          exact r2.set (e2.at hn) hH (by intro _ z;cases z) (by intro _ _ z;cases z) ⟨_,Ql,(qs.mono ex).append (.cons (h1.mono ex) .nil)⟩
         ·rw[Uh z]at p1;exact p1.elim
        |_=>exact p1.elim
    |_=>exact p1.elim
  |_=>exact p1.elim
end
def IsIt(b:Bool)(h:Heap)(i l:Addr)(k:Nat):Prop:=if b=true then h.IsListIter i l k else h.IsTupleIter i l k
def IsSq(b:Bool)(h:Heap)(l:Addr)(xs:Array Value):Prop:=if b=true then h.IsList l xs else h.IsTuple l xs
theorem IsIt.at{b:Bool}{h h':Heap}{i l:Addr}{k:Nat}(x:IsIt b h i l k)(hk:∀o,h.get? i=some o->h'.get? i=some o):IsIt b h' i l k:=by
 cases b
 ·exact Heap.IsTupleIter.at (show h.IsTupleIter i l k from x) hk
 ·exact Heap.IsListIter.at (show h.IsListIter i l k from x) hk
theorem IsSq.at{b:Bool}{h h':Heap}{l:Addr}{xs:Array Value}(x:IsSq b h l xs)(hk:∀o,h.get? l=some o->h'.get? l=some o):IsSq b h' l xs:=by
 cases b
 ·obtain⟨o,e,c⟩:=(show h.IsTuple l xs from x);exact⟨o,hk o e,c⟩
 ·obtain⟨o,e,c⟩:=(show h.IsList l xs from x);exact⟨o,hk o e,c⟩
theorem IsIt.lt{b:Bool}{h:Heap}{i l:Addr}{k:Nat}(x:IsIt b h i l k):i<h.objs.size:=by
 cases b
 ·obtain⟨o,e,_⟩:=(show h.IsTupleIter i l k from x);exact Um e
 ·obtain⟨o,e,_⟩:=(show h.IsListIter i l k from x);exact Um e
theorem IsIt.rec{b:Bool}{h:Heap}{i l:Addr}{k:Nat}(x:IsIt b h i l k):∃o,h.get? i=some o/\∀v,o.data≠.cell v:=by
 cases b
 ·obtain⟨o,e,c,d⟩:=(show h.IsTupleIter i l k from x);exact⟨o,e,λv z=>by rw[d]at z;cases z⟩
 ·obtain⟨o,e,c,d⟩:=(show h.IsListIter i l k from x);exact⟨o,e,λv z=>by rw[d]at z;cases z⟩
theorem IsSq.lt{b:Bool}{h:Heap}{l:Addr}{xs:Array Value}(x:IsSq b h l xs):l<h.objs.size:=by
 cases b
 ·obtain⟨o,e,_⟩:=(show h.IsTuple l xs from x);exact Um e
 ·obtain⟨o,e,_⟩:=(show h.IsList l xs from x);exact Um e
section
variable{prog:Program}{w:World}{A:Around}{E:Value->Shared->Prop}{s:Shared}
theorem Qdn{it t:Addr}{i:Nat}{items:Array Value}{x:Value}{Q:Value->Shared->Prop}(hit:s.heap.IsTupleIter it t i)(ht:s.heap.IsTuple t items)(hx:items[i]?=some x)(hQ:∀h',h'.IsTupleIter it t (i+1)->Heap.SameBut it s.heap h'->Q x {s with heap:=h'}):
  wpAny (model prog w) A (Builtin.SmallTypes.nextOf (.ref it)) Q E s:=by
 obtain⟨o,ho,hc,hd⟩:=id hit;obtain⟨ol,hol,_,nl,hdl⟩:=ht;unfold Builtin.SmallTypes.nextOf
 refine Ua (TK (name:=Str.ofString "__next__") hit.typeIs Tq (RE Tq hit.typeIs RW ?_ (RL _)))
 show wpAny _ _ (field (.ref it) 0 >>= _) _ _ s;refine Ua (US ho hd (x:=.ref t) rfl ?_)
 show wpAny _ _ (if (Value.ref t == Value.none)=true then _ else _) _ _ s;rw[Uh (show ¬((Value.ref t == Value.none)=true) from Ud)]
 show wpAny _ _ (field (.ref it) 1 >>= _) _ _ s;refine Ua (US ho hd (x:=.int i 0) rfl ?_)
 show wpAny _ _ (seqItems? (.ref t) >>= _) _ _ s;refine Ua (Tt hol hdl ?_);simp only[UX,hx]
 refine Ua (T8 ho hd (by simp) (Uk ⟨x,rfl,Uk (hQ _ ⟨_,TY _ ho (Obj.isFreed_of_fields (TR hd _)),(Wf ..).trans hc,by rw[TR hd];simp[rawInt]⟩ (Heap.SameBut.update ..))⟩))
theorem QaM{it t:Addr}{i:Nat}{items:Array Value}{Q:Value->Shared->Prop}(hh:A.handled=none)(hit:s.heap.IsTupleIter it t i)(ht:s.heap.IsTuple t items)(hx:items[i]?=none)(hE:∀h' e,Heap.ExtBut it s.heap h'->(∃o,h'.get? e=some o/\o.cls=.type "StopIteration")->E (.ref e) {s with heap:=h'}):wpAny (model prog w) A (Builtin.SmallTypes.nextOf (.ref it)) Q E s:=by
 obtain⟨o,ho,hc,hd⟩:=id hit;obtain⟨ol,hol,_,nl,hdl⟩:=ht;unfold Builtin.SmallTypes.nextOf
 refine Ua (TK (name:=Str.ofString "__next__") hit.typeIs Tq (RE Tq hit.typeIs RW ?_ (RL _)))
 show wpAny _ _ (field (.ref it) 0 >>= _) _ _ s;refine Ua (US ho hd (x:=.ref t) rfl ?_)
 show wpAny _ _ (if (Value.ref t == Value.none)=true then _ else _) _ _ s;rw[Uh (show ¬((Value.ref t == Value.none)=true) from Ud)]
 show wpAny _ _ (field (.ref it) 1 >>= _) _ _ s;refine Ua (US ho hd (x:=.int i 0) rfl ?_)
 show wpAny _ _ (seqItems? (.ref t) >>= _) _ _ s;refine Ua (Tt hol hdl ?_);simp only[UX,hx]
 refine Ua (wpAny_rule (Ua (T8 ho hd (by simp) ?_)))
 show wpAny _ _ (newExc (.type "StopIteration") [] >>= _) _ _ _;refine Ua ?_;simp only[newExc,newTuple];refine Ua (Rx ?_ (by size_fits))
 refine Ua (m:=firstArgMember _ _) (RM (a:=Value.none) (by first|rfl|(simp only[firstArgMember];rfl)) ?_);refine Rx ?_ (by size_fits);simp only[raiseNew]
 refine Ua (wpAny_handled ?_);(first|rw[show A.in1.handled=none from hh]|rw[hh]);refine Ua (Uk (wpAny_throw ?_))
 exact hE _ _ (((Heap.SameBut.update ..).extBut.push _).push _) ⟨_,Ur _ rfl,rfl⟩
theorem Qeq{b:Bool}{it l:Addr}{i:Nat}{xs:Array Value}{x:Value}{Q:Value->Shared->Prop}(hit:IsIt b s.heap it l i)(hl:IsSq b s.heap l xs)(hx:xs[i]?=some x)(hQ:∀h',IsIt b h' it l (i+1)->Heap.SameBut it s.heap h'->Q x {s with heap:=h'}):
  wpAny (model prog w) A (Builtin.SmallTypes.nextOf (.ref it)) Q E s:=by
 cases b
 ·exact Qdn hit hl hx hQ
 ·exact wpAny_nextOf_list_item hit hl hx hQ
theorem Qer{b:Bool}{it l:Addr}{i:Nat}{xs:Array Value}{Q:Value->Shared->Prop}(hh:A.handled=none)(hit:IsIt b s.heap it l i)(hl:IsSq b s.heap l xs)(hx:xs[i]?=none)(hE:∀h' e,Heap.ExtBut it s.heap h'->(∃o,h'.get? e=some o/\o.cls=.type "StopIteration")->E (.ref e) {s with heap:=h'}):wpAny (model prog w) A (Builtin.SmallTypes.nextOf (.ref it)) Q E s:=by
 cases b
 ·exact QaM hh hit hl hx hE
 ·exact wpAny_nextOf_list_end hh hit hl hx hE
theorem Qhb{b1 b2:Bool}{z TI TO i1 i2 l1 l2:Addr}{k:Nat}{xs ys:Array Value}{x y a b:Value}{Q:Value->Shared->Prop}(D:ZipApart z TI TO i1 i2 l1 l2)(hz:IsZip s.heap z TI TO .none)(hTI:IsPair s.heap TI (.ref i1) (.ref i2))(hTO:IsPair s.heap TO a b)(h1:IsIt b1 s.heap i1 l1 k)(h2:IsIt b2 s.heap i2 l2 k)(hl1:IsSq b1 s.heap l1 xs)(hl2:IsSq b2 s.heap l2 ys)(hx:xs[k]?=some x)(hy:ys[k]?=some y)(hQ:∀h',IsZip h' z TI TO (rawInt s.heap.objs.size)->IsPair h' TO x y->IsIt b1 h' i1 l1 (k+1)->IsIt b2 h' i2 l2 (k+1)->IsPair h' s.heap.objs.size x y->h'.objs.size=s.heap.objs.size+1 ->
   (∀c o,c≠z->c≠TO->c≠i1->c≠i2->s.heap.get? c=some o->h'.get? c=some o)->Q (.ref s.heap.objs.size) {s with heap:=h'}):
  wpAny (model prog w) A (Builtin.«zip.__next__» ⟨[.ref z],[]⟩) (λfin s'=>∃v,fin=.done (.ret v)/\Q v s') E s:=by
 show wpAny _ _ (field (.ref z) 2 >>= _) _ _ _;refine Ua (US hz rfl (x:=.bool false) rfl ?_)
 show wpAny _ _ (field (.ref z) 3 >>= _) _ _ _;refine Ua (US hz rfl (x:=.ref TI) rfl ?_);refine Ua (Tt hTI rfl ?_)
 show wpAny _ _ (Builtin.SmallTypes.ownedTupleIsFree (.ref z) >>= _) _ _ _;refine Ua ?_;unfold Builtin.SmallTypes.ownedTupleIsFree
 refine Ua (US hz rfl (x:=.none) rfl (Uk ?_));simp only[Wd];refine Ua (wpAny_rule ?_);refine Ua (US hz rfl (x:=.ref TO) rfl ?_)
 refine Ua (Tr hz (by simp) λg1 hz1 hs1=>?_);replace hz1:IsZip g1 z TI TO .ellipsis:=hz1
 refine Ua ?_;simp only[List.zipIdx_cons,List.zipIdx_nil,RO,Wb];refine Ua (Ua (Wn ?_))
 show wpAny _ _ (Builtin.SmallTypes.nextOf (.ref i1) >>= _) _ _ _
 refine Ua (Qeq (h1.at λo e=>hs1.extBut _ o D.i1z e) (hl1.at λo e=>hs1.extBut _ o D.l1z e) hx λg2 h12 hs2=>Uk ?_)
 have hTO2:IsPair g2 TO a b:=hs2.extBut _ _ D.TOi1 (hs1.extBut _ _ D.TOz hTO)
 refine Ua (Tt hTO2 rfl ?_);refine Ua (RI hTO2 λg3 hTO3 hs3=>?_);replace hTO3:IsPair g3 TO x b:=hTO3
 refine Ua (WI (Uk ?_));refine Ua (Ua (Wn ?_))
 show wpAny _ _ (Builtin.SmallTypes.nextOf (.ref i2) >>= _) _ _ _
 refine Ua (Qeq (h2.at λo e=>hs3.extBut _ o D.TOi2.symm (hs2.extBut _ o D.i12.symm (hs1.extBut _ o D.i2z e))) (hl2.at λo e=>hs3.extBut _ o D.l2TO (hs2.extBut _ o D.l2i1 (hs1.extBut _ o D.l2z e))) hy λg4 h24 hs4=>Uk ?_)
 have hTO4:IsPair g4 TO x b:=hs4.extBut _ _ D.TOi2 hTO3
 refine Ua (Tt hTO4 rfl ?_);refine Ua (RI hTO4 λg5 hTO5 hs5=>?_);replace hTO5:IsPair g5 TO x y:=hTO5
 refine Ua (WI (Uk (Uk ?_)));refine Ua (Tt hTO5 rfl ?_);refine Ua (wpAny_newTuple ?_)
 have hsz:g5.objs.size=s.heap.objs.size:=by rw[hs5.1,hs4.1,hs3.1,hs2.1,hs1.1]
 have hz5:IsZip g5 z TI TO .ellipsis:=hs5.extBut _ _ D.TOz.symm (hs4.extBut _ _ D.i2z.symm (hs3.extBut _ _ D.TOz.symm (hs2.extBut _ _ D.i1z.symm hz1)))
 have hk5:∀c o,c≠z->c≠TO->c≠i1->c≠i2->s.heap.get? c=some o->g5.get? c=some o:=λc o c1 c2 c3 c4 e=>hs5.extBut _ _ c2 (hs4.extBut _ _ c4 (hs3.extBut _ _ c2 (hs2.extBut _ _ c3 (hs1.extBut _ _ c1 e))))
 have h15:IsIt b1 g5 i1 l1 (k+1):=h12.at λo e=>hs5.extBut _ o D.TOi1.symm (hs4.extBut _ o D.i12 (hs3.extBut _ o D.TOi1.symm e))
 have h25:IsIt b2 g5 i2 l2 (k+1):=h24.at λo e=>hs5.extBut _ o D.TOi2.symm e
 have hzlt:z<g5.objs.size:=Um hz5
 show wpAny _ _ (Builtin.SmallTypes.ownedTupleHandOut (.ref z) (.ref g5.objs.size) >>= _) _ _ _
 refine Ua ?_;unfold Builtin.SmallTypes.ownedTupleHandOut
 have hz6:IsZip (g5.push {cls:=.type "tuple",data:=.seq #[x,y]}) z TI TO .ellipsis:=Ub _ hz5
 refine Ua (Tr hz6 (by simp) λg7 hz7 hs7=>?_);replace hz7:IsZip g7 z TI TO (rawInt g5.objs.size):=hz7
 refine Tr hz7 (by simp) λg8 hz8 hs8=>?_;replace hz8:IsZip g8 z TI TO (rawInt g5.objs.size):=hz8
 have upz:∀c o,c≠z->g5.get? c=some o->g8.get? c=some o:=λc o c1 e=>hs8.extBut _ _ c1 (hs7.extBut _ _ c1 (Ub _ e))
 have hT8:IsPair g8 g5.objs.size x y:=hs8.extBut _ _ (Ra hzlt) (hs7.extBut _ _ (Ra hzlt) (Ur _ rfl))
 have hsz8:g8.objs.size=g5.objs.size+1:=by rw[hs8.1,hs7.1,Th]
 rw[hsz]at hz8 hT8 hsz8;refine Uk ⟨_,rfl,?_⟩;show Q (.ref g5.objs.size) _;rw[hsz]
 exact hQ g8 hz8 (upz _ _ D.TOz hTO5) (h15.at λo e=>upz _ o D.i1z e) (h25.at λo e=>upz _ o D.i2z e) hT8 hsz8 λc o c1 c2 c3 c4 e=>upz c o c1 (hk5 c o c1 c2 c3 c4 e)
theorem QiH{b1 b2:Bool}{z TI TO i1 i2 l1 l2:Addr}{k:Nat}{xs ys:Array Value}{a b:Value}{Q:Fin->Shared->Prop}(hh:A.handled=none)(D:ZipApart z TI TO i1 i2 l1 l2)(hz:IsZip s.heap z TI TO .none)(hTI:IsPair s.heap TI (.ref i1) (.ref i2))(hTO:IsPair s.heap TO a b)(h1:IsIt b1 s.heap i1 l1 k)(h2:IsIt b2 s.heap i2 l2 k)(hl1:IsSq b1 s.heap l1 xs)(hl2:IsSq b2 s.heap l2 ys)(hend:xs[k]?=none\/ys[k]?=none)(hE:∀h' e,(∀c o,c≠z->c≠TO->c≠i1->c≠i2->s.heap.get? c=some o->h'.get? c=some o)->(∃o,h'.get? e=some o/\o.cls=.type "StopIteration")->E (.ref e) {s with heap:=h'}):
  wpAny (model prog w) A (Builtin.«zip.__next__» ⟨[.ref z],[]⟩) Q E s:=by
 show wpAny _ _ (field (.ref z) 2 >>= _) _ _ _;refine Ua (US hz rfl (x:=.bool false) rfl ?_)
 show wpAny _ _ (field (.ref z) 3 >>= _) _ _ _;refine Ua (US hz rfl (x:=.ref TI) rfl ?_);refine Ua (Tt hTI rfl ?_)
 show wpAny _ _ (Builtin.SmallTypes.ownedTupleIsFree (.ref z) >>= _) _ _ _;refine Ua ?_;unfold Builtin.SmallTypes.ownedTupleIsFree
 refine Ua (US hz rfl (x:=.none) rfl (Uk ?_));simp only[Wd];refine Ua (wpAny_rule ?_);refine Ua (US hz rfl (x:=.ref TO) rfl ?_)
 refine Ua (Tr hz (by simp) λg1 hz1 hs1=>?_);replace hz1:IsZip g1 z TI TO .ellipsis:=hz1
 refine Ua ?_;simp only[List.zipIdx_cons,List.zipIdx_nil,RO,Wb];refine Ua (Ua (Wn ?_))
 show wpAny _ _ (Builtin.SmallTypes.nextOf (.ref i1) >>= _) _ _ _
 cases hx:xs[k]? with
 |none =>
  refine Ua (Qer hh (h1.at λo e=>hs1.extBut _ o D.i1z e) (hl1.at λo e=>hs1.extBut _ o D.l1z e) hx λg2 e hs2 he=>?_)
  obtain⟨oe,hoe,hce⟩:=he;have hz2:IsZip g2 z TI TO .ellipsis:=hs2 _ _ D.i1z.symm hz1
  have hez:e≠z:=λq=>by subst q;rw[hz2]at hoe;cases hoe;simp at hce
  refine Tr hz2 (by simp) λg3 _ hs3=>hE g3 e (λc o c1 _ c3 _ q=>hs3.extBut _ _ c1 (hs2 _ _ c3 (hs1.extBut _ _ c1 q))) ⟨oe,hs3.extBut _ _ hez hoe,hce⟩
 |some x =>
  have hy:ys[k]?=none:=by rcases hend with q|q;(· rw[hx]at q;cases q);exact q
  refine Ua (Qeq (h1.at λo e=>hs1.extBut _ o D.i1z e) (hl1.at λo e=>hs1.extBut _ o D.l1z e) hx λg2 h12 hs2=>Uk ?_)
  have hTO2:IsPair g2 TO a b:=hs2.extBut _ _ D.TOi1 (hs1.extBut _ _ D.TOz hTO)
  refine Ua (Tt hTO2 rfl ?_);refine Ua (RI hTO2 λg3 hTO3 hs3=>?_);refine Ua (WI (Uk ?_));refine Ua (Ua (Wn ?_))
  show wpAny _ _ (Builtin.SmallTypes.nextOf (.ref i2) >>= _) _ _ _
  refine Ua (Qer hh (h2.at λo e=>hs3.extBut _ o D.TOi2.symm (hs2.extBut _ o D.i12.symm (hs1.extBut _ o D.i2z e))) (hl2.at λo e=>hs3.extBut _ o D.l2TO (hs2.extBut _ o D.l2i1 (hs1.extBut _ o D.l2z e))) hy λg4 e hs4 he=>?_)
  obtain⟨oe,hoe,hce⟩:=he;have hz4:IsZip g4 z TI TO .ellipsis:=hs4 _ _ D.i2z.symm (hs3.extBut _ _ D.TOz.symm (hs2.extBut _ _ D.i1z.symm hz1))
  have hez:e≠z:=λq=>by subst q;rw[hz4]at hoe;cases hoe;simp at hce
  refine Tr hz4 (by simp) λg5 _ hs5=>hE g5 e (λc o c1 c2 c3 c4 q=>hs5.extBut _ _ c1 (hs4 _ _ c4 (hs3.extBut _ _ c2 (hs2.extBut _ _ c3 (hs1.extBut _ _ c1 q))))) ⟨oe,hs5.extBut _ _ hez hoe,hce⟩
theorem Qdo{b1 b2:Bool}{z TI TO i1 i2 l1 l2:Addr}{k:Nat}{xs ys:Array Value}{x y a b:Value}{Q:Option Value->Shared->Prop}(D:ZipApart z TI TO i1 i2 l1 l2)(hz:IsZip s.heap z TI TO .none)(hTI:IsPair s.heap TI (.ref i1) (.ref i2))(hTO:IsPair s.heap TO a b)(h1:IsIt b1 s.heap i1 l1 k)(h2:IsIt b2 s.heap i2 l2 k)(hl1:IsSq b1 s.heap l1 xs)(hl2:IsSq b2 s.heap l2 ys)(hx:xs[k]?=some x)(hy:ys[k]?=some y)(hQ:∀h',IsZip h' z TI TO (rawInt s.heap.objs.size)->IsPair h' TO x y->IsIt b1 h' i1 l1 (k+1)->IsIt b2 h' i2 l2 (k+1)->IsPair h' s.heap.objs.size x y->h'.objs.size=s.heap.objs.size+1 ->
   (∀c o,c≠z->c≠TO->c≠i1->c≠i2->s.heap.get? c=some o->h'.get? c=some o)->Q (some (.ref s.heap.objs.size)) {s with heap:=h'}):wpAny (model prog w) A (pyNext (.ref z)) Q E s:=by
 have hT:s.TypeIs (.ref z) "zip":=⟨_,hz,rfl⟩;unfold pyNext
 exact Ua (RJ (TK (name:=Str.ofString "__next__") hT RP (RE RP hT F.entry_zip_next (Qhb D hz hTI hTO h1 h2 hl1 hl2 hx hy λh' a1 a2 a3 a4 a5 a6 a7=>Uk (hQ h' a1 a2 a3 a4 a5 a6 a7)) (F.args_zip_next_1 _))))
theorem QaN{b1 b2:Bool}{z TI TO i1 i2 l1 l2:Addr}{k:Nat}{xs ys:Array Value}{a b:Value}{Q:Option Value->Shared->Prop}(hh:A.handled=none)(D:ZipApart z TI TO i1 i2 l1 l2)(hz:IsZip s.heap z TI TO .none)(hTI:IsPair s.heap TI (.ref i1) (.ref i2))(hTO:IsPair s.heap TO a b)(h1:IsIt b1 s.heap i1 l1 k)(h2:IsIt b2 s.heap i2 l2 k)(hl1:IsSq b1 s.heap l1 xs)(hl2:IsSq b2 s.heap l2 ys)(hend:xs[k]?=none\/ys[k]?=none)(hQ:∀h',(∀c o,c≠z->c≠TO->c≠i1->c≠i2->s.heap.get? c=some o->h'.get? c=some o)->Q none {s with heap:=h'}):wpAny (model prog w) A (pyNext (.ref z)) Q E s:=by
 have hT:s.TypeIs (.ref z) "zip":=⟨_,hz,rfl⟩;unfold pyNext
 refine Ua (RJ (TK (name:=Str.ofString "__next__") hT RP (RE RP hT F.entry_zip_next (QiH hh D hz hTI hTO h1 h2 hl1 hl2 hend λh' e hk he=>?_) (F.args_zip_next_1 _))))
 obtain⟨o,ho,hc⟩:=he;refine Ua (wpAny_isInstance (T:="StopIteration") (b:=true) ⟨o,ho,hc⟩ isSubtype_stop ?_);exact Uk (hQ _ hk)
noncomputable def QiI(b:Bool):String:=if b=true then "list_iterator" else "tuple_iterator"
noncomputable def QaO(b:Bool)(l:Addr):Obj:={cls:=.type (QiI b),data:=.fields #[.ref l,.int 0 0]}
theorem Qbw{b:Bool}{l:Addr}{xs:Array Value}{Q:Value->Shared->Prop}(hl:IsSq b s.heap l xs)(h:Q (.ref s.heap.objs.size) {s with heap:=s.heap.push (QaO b l)}):wpAny (model prog w) A (pyIter (.ref l)) Q E s:=by
 cases b
 ·exact wpAny_pyIter_tuple hl h
 ·exact Wg hl h
theorem IsSq.push{b:Bool}{h:Heap}{l:Addr}{xs:Array Value}(x:IsSq b h l xs)(o:Obj):IsSq b (h.push o) l xs:=x.at λ_ e=>Ub _ e
noncomputable abbrev zH1(b1:Bool)(h:Heap)(l1:Addr):Heap:=h.push (QaO b1 l1)
noncomputable abbrev zH2(b1 b2:Bool)(h:Heap)(l1 l2:Addr):Heap:=(zH1 b1 h l1).push (QaO b2 l2)
noncomputable abbrev zH3(b1 b2:Bool)(h:Heap)(l1 l2:Addr):Heap:=(zH2 b1 b2 h l1 l2).push {cls:=.type "tuple",data:=.seq #[.ref h.objs.size,.ref (zH1 b1 h l1).objs.size]}
noncomputable abbrev zH4(b1 b2:Bool)(h:Heap)(l1 l2:Addr):Heap:=(zH3 b1 b2 h l1 l2).push {cls:=.type "tuple",data:=.seq #[.none,.none]}
noncomputable abbrev zH5(b1 b2:Bool)(h:Heap)(l1 l2:Addr):Heap:=(zH4 b1 b2 h l1 l2).push {cls:=.type "zip",data:=.fields #[.none,.bool false,.bool false,.ref (zH2 b1 b2 h l1 l2).objs.size,.ref (zH3 b1 b2 h l1 l2).objs.size]}
theorem Qhc(b1 b2:Bool)(l1 l2:Addr)(xs ys:Array Value):Meets (Builtin.«zip.__new__» ⟨[.type "zip",.ref l1,.ref l2],[]⟩) (λ_ R s=>IsSq b1 s.heap l1 xs/\IsSq b2 s.heap l2 ys/\R (.ok (.ret (.ref (zH4 b1 b2 s.heap l1 l2).objs.size))) {s with heap:=zH5 b1 b2 s.heap l1 l2}) :=
 .of_wp λprog w A R s h=>by
  obtain⟨hp,g,d,tk,os⟩:=s;obtain⟨hl1,hl2,h⟩:=h;have hsub:=sub_zip
  have hL1:IsSq b1 (Shared.heap ⟨hp,g,d,tk,os⟩) l1 xs:=hl1
  have hL2:IsSq b2 (Shared.heap ⟨hp.push (QaO b1 l1),g,d,tk,os⟩) l2 ys:=hl2.push _
  wp_walk using Qbw hL1,Qbw hL2
  exact⟨_,rfl,h⟩
theorem itAt(b:Bool){h:Heap}{i l:Addr}(e:h.get? i=some (QaO b l)):IsIt b h i l 0:=by
 cases b
 ·exact⟨_,e,rfl,rfl⟩
 ·exact⟨_,e,rfl,rfl⟩
theorem QfI{b1 b2:Bool}{l1 l2:Addr}{xs ys:Array Value}{Q:Value->Shared->Prop}(hl1:IsSq b1 s.heap l1 xs)(hl2:IsSq b2 s.heap l2 ys)(h:∀h',IsZip h' (s.heap.objs.size+4) (s.heap.objs.size+2) (s.heap.objs.size+3) .none->IsPair h' (s.heap.objs.size+2) (.ref s.heap.objs.size) (.ref (s.heap.objs.size+1))->IsPair h' (s.heap.objs.size+3) .none .none ->
   IsIt b1 h' s.heap.objs.size l1 0->IsIt b2 h' (s.heap.objs.size+1) l2 0->h'.objs.size=s.heap.objs.size+5->(∀c o,s.heap.get? c=some o->h'.get? c=some o)->Q (.ref (s.heap.objs.size+4)) {s with heap:=h'}):
  wpAny (model prog w) A (call (.type "zip") [.ref l1,.ref l2]) Q E s:=by
 refine callType_new F.called_zip (by decide) (F.typeCall_zip_2 _ _) (F.newCall_zip_2 _ _) (λobj=>F.args_object_init_3 obj _ _) F.entry_zip_new (Qhc b1 b2 l1 l2 xs ys) ⟨hl1,hl2,?_⟩
 have z1:(zH1 b1 s.heap l1).objs.size=s.heap.objs.size+1:=Th ..
 have z2:(zH2 b1 b2 s.heap l1 l2).objs.size=s.heap.objs.size+2:=by rw[Th,z1]
 have z3:(zH3 b1 b2 s.heap l1 l2).objs.size=s.heap.objs.size+3:=by rw[Th,z2]
 have z4:(zH4 b1 b2 s.heap l1 l2).objs.size=s.heap.objs.size+4:=by rw[Th,z3]
 have z5:(zH5 b1 b2 s.heap l1 l2).objs.size=s.heap.objs.size+5:=by rw[Th,z4]
 have g5:(zH5 b1 b2 s.heap l1 l2).get? (zH4 b1 b2 s.heap l1 l2).objs.size=some _:=Ur _ rfl
 have g4:(zH5 b1 b2 s.heap l1 l2).get? (zH3 b1 b2 s.heap l1 l2).objs.size=some _:=Ub _ (Ur _ rfl)
 have g3:(zH5 b1 b2 s.heap l1 l2).get? (zH2 b1 b2 s.heap l1 l2).objs.size=some _:=Ub _ (Ub _ (Ur _ rfl))
 have g2:(zH5 b1 b2 s.heap l1 l2).get? (zH1 b1 s.heap l1).objs.size=some (QaO b2 l2):=Ub _ (Ub _ (Ub _ (Ur _ (by unfold QaO;rfl))))
 have g1:(zH5 b1 b2 s.heap l1 l2).get? s.heap.objs.size=some (QaO b1 l1):=Ub _ (Ub _ (Ub _ (Ub _ (Ur _ (by unfold QaO;rfl)))))
 show _/\_
 rw[z2,z3,z4]at g5;rw[z1,z2]at g3;rw[z3]at g4;rw[z1]at g2;rw[z4]
 exact⟨⟨_,g5,rfl⟩,h _ g5 g3 g4 (itAt b1 g1) (itAt b2 g2) z5 λc o q=>Ub _ (Ub _ (Ub _ (Ub _ (Ub _ q))))⟩
end
def Sq(b:Bool)(K:Frag)(H:Hp)(a:Addr)(xs:List V):Prop:=if b=true then SqL K H a xs else SqT K H a xs
theorem Sq.real{b:Bool}{X:Cx}{pins:List (Addr×Obj)}{σ:L2.St}{H:Hp}{s:Shared}{a:Addr}{xs:List V}(I:Inv X pins σ H s)(h:Sq b X.K H a xs):∃its:List Value,Vals xs its/\IsSq b s.heap a its.toArray:=by
 cases b
 ·obtain⟨its,r,p,_⟩:=I.tuple (show SqT X.K H a xs from h);exact⟨its,r,p⟩
 ·obtain⟨its,r,p,_⟩:=I.list (show SqL X.K H a xs from h);exact⟨its,r,p.isList⟩
theorem Sq.inj{b:Bool}{X:Cx}{pins:List (Addr×Obj)}{σ:L2.St}{H:Hp}{s:Shared}{a:Addr}{xs ys:List V}(I:Inv X pins σ H s)(h:Sq b X.K H a xs)(h':Sq b X.K H a ys):xs=ys:=by
 cases b
 ·exact I.tuple_inj h h'
 ·exact I.list_inj h h'
noncomputable def Itz(K:Frag)(b1 b2:Bool)(a1 a2:Addr):It :=
  ⟨λi H=>∃xs ys x y,Sq b1 K H a1 xs/\Sq b2 K H a2 ys/\xs[i]?=some x/\ys[i]?=some y,
   λi H v H'=>∃p x y,H p=none/\v=.ref p/\H'=upd H p (.tup [x,y])/\(∀xs,Sq b1 K H a1 xs->xs[i]?=some x)/\∀ys,Sq b2 K H a2 ys->ys[i]?=some y,
   λi H=>∃xs ys,Sq b1 K H a1 xs/\Sq b2 K H a2 ys/\(xs.length<=i\/ys.length<=i)⟩
noncomputable def QjG(b1 b2:Bool)(z TI TO i1 i2 l1 l2:Addr)(i:Nat)(h:Heap):Prop :=
 IsZip h z TI TO .none/\IsPair h TI (.ref i1) (.ref i2)/\(∃a b,IsPair h TO a b)/\IsIt b1 h i1 l1 i/\IsIt b2 h i2 l2 i
theorem QfJ{P:Program}{w:World}{K:Frag}{elts:List Expr}{kk:Nat}{tp:Pos}(b1 b2:Bool)(z TI TO i1 i2 l1 l2:Addr)(D:ZipApart z TI TO i1 i2 l1 l2):
  Turn P w K (.Tuple elts kk tp) (Itz K b1 b2 l1 l2) [z,TI,TO,i1,i2] z (QjG b1 b2 z TI TO i1 i2 l1 l2) where
 mem:=by simp
 obj:=λi h st b hb=>by
  obtain⟨hz,hTI,⟨a,c,hTO⟩,h1,h2⟩:=st
  have hb':b=z\/b=TI\/b=TO\/b=i1\/b=i2:=by simpa using hb
  rcases hb' with rfl|rfl|rfl|rfl|rfl
  ·exact⟨_,hz,λv q=>by cases q⟩
  ·exact⟨_,hTI,λv q=>by cases q⟩
  ·exact⟨_,hTO,λv q=>by cases q⟩
  ·exact h1.rec
  ·exact h2.rec
 keep:=λi h h' st k=>by
  obtain⟨hz,hTI,⟨a,c,hTO⟩,h1,h2⟩:=st
  exact⟨k z (by simp) _ hz,k TI (by simp) _ hTI,⟨a,c,k TO (by simp) _ hTO⟩,h1.at λo e=>k i1 (by simp) o e,h2.at λo e=>k i2 (by simp) o e⟩
 item:=by
  intro X hP hw hK hc i pins s σ H E I hf st hg
  subst hP hw hK
  obtain⟨xs,ys,x,y,q1,q2,hx,hy⟩:=hg
  obtain⟨us,r1,p1⟩:=q1.real I
  obtain⟨ts,r2,p2⟩:=q2.real I
  obtain⟨u,hu,ru⟩:=r1.get hx
  obtain⟨t,ht,rt⟩:=r2.get hy
  obtain⟨hz,hTI,⟨a,c,hTO⟩,h1,h2⟩:=st
  have fz:=hf z (by simp)
  have fTI:=hf TI (by simp)
  have fTO:=hf TO (by simp)
  have f1:=hf i1 (by simp)
  have f2:=hf i2 (by simp)
  refine Qdo D hz hTI hTO h1 h2 p1 p2 (by simpa using hu) (by simpa using ht) λh' a1 a2 a3 a4 a5 a6 hk=>?_
  have hp:H s.heap.objs.size=none:=I.hok.fresh (Ul _)
  have inC:∀b,b∈[z,TO,i1,i2]->FpOk X pins H b:=λb hb=>by
   have hb':b=z\/b=TO\/b=i1\/b=i2:=by simpa using hb
   rcases hb' with rfl|rfl|rfl|rfl
   ·exact fz
   ·exact fTO
   ·exact f1
   ·exact f2
  have hk':∀b o,b∉[z,TO,i1,i2]->s.heap.get? b=some o->h'.get? b=some o:=λb o hb e=>hk b o (λq=>hb (by simp[q])) (λq=>hb (by simp[q])) (λq=>hb (by simp[q])) (λq=>hb (by simp[q])) e
  have nC:∀b v,H b=some v->b∉[z,TO,i1,i2]:=λb v e hb=>by rw[(inC b hb).1]at e;cases e
  have nP:∀b v,H b=some v->b≠s.heap.objs.size:=λb v e=>Qx e hp
  have I1:Inv X pins σ (upd H s.heap.objs.size (.tup [x,y])) {s with heap:=h'}:=by
   refine I.step (g':=s.gens) (t':=s.toks) (d':=s.drawn) (ch:=[z,TO,i1,i2]) (λb hb=>⟨(inC b hb).2.2.2.1,(inC b hb).2.1,(inC b hb).2.2.2.2.1,(inC b hb).2.2.2.2.2⟩) (λb o _ _ hb e _=>hk' b o hb e) (λb o _ _ hb e _=>⟨o.slots,hk' b o hb e⟩)
    (λb o hb e n=>by rw[Qh (UK (Um e))];exact n) (λb o hb e=>⟨o,hk' b o hb e⟩) (λb v e=>by rw[Qh (nP b _ e)];exact e) (λb o v e=>by rw[Qh (nP b _ e)];exact e) (λb ps e=>⟨#[],by rw[Qh (nP b _ e),e];simp⟩)
    (λm hm=>?_) (λb v e=>?_) I.bare
   ·obtain⟨o,es,ep,ho,rr⟩:=hm
    exact⟨o,es,ep,hk' _ o (λhb=>(inC _ hb).2.1 rfl) ho,rr⟩
   ·by_cases hb:b=s.heap.objs.size
    ·subst hb
     rw[Ql]at e;cases e
     exact⟨by rw[Tc];show 2<=16777216;decide,[u,t],.cons ru (.cons rt .nil),⟨_,a5,rfl,rfl,_,rfl⟩⟩
    ·rw[Qh hb]at e
     refine(I.hok b v e).stay (λc' v' hc' q=>?_) (λc' q=>by rw[Qh (nP c' _ q)];exact q) λc' xs' q=>by rw[Qh (nP c' _ q)];exact q
     rcases hc' with rfl|hc'
     ·exact hk' _ _ (nC _ _ e) q
     ·exact hk' _ _ (nC _ _ hc') q
  refine⟨_,rfl,wpAny_letOwnedTupleGo_zip a1 λh'' hz'' hs''=>?_⟩
  have hpz:s.heap.objs.size≠z:=Ra (Um hz)
  have I2:Inv X pins σ (upd H s.heap.objs.size (.tup [x,y])) {s with heap:=h''}:=Inv.turned (s:={s with heap:=h'}) (t':=s.toks) I1 (λb o hb e=>hs''.extBut b o hb e) (by rw[Qh (Ne.symm hpz)];exact fz.1) fz.2.1 fz.2.2.2.1 fz.2.2.2.2.1 fz.2.2.2.2.2
  refine⟨.ref s.heap.objs.size,_,I2,rfl,⟨_,x,y,hp,rfl,rfl,λxs' q=>by rw[q.inj I q1];exact hx,λys' q=>by rw[q.inj I q2];exact hy⟩,
   ⟨hz'',hs''.extBut _ _ D.TIz (hk _ _ D.TIz D.TITO D.TIi1 D.TIi2 hTI),⟨_,_,hs''.extBut _ _ D.TOz a2⟩,a3.at λo e=>hs''.extBut _ o D.i1z e,a4.at λo e=>hs''.extBut _ o D.i2z e⟩,λb hb=>?_⟩
  have lt:b<s.heap.objs.size:=by
   have hb':b=z\/b=TI\/b=TO\/b=i1\/b=i2:=by simpa using hb
   rcases hb' with rfl|rfl|rfl|rfl|rfl
   ·exact Um hz
   ·exact Um hTI
   ·exact Um hTO
   ·exact h1.lt
   ·exact h2.lt
  rw[Qh (UK lt)]
  exact(hf b hb).1
 done:=by
  intro X hP hw hK hc i pins s σ H E I hf st hg
  subst hP hw hK
  obtain⟨xs,ys,q1,q2,hl⟩:=hg
  obtain⟨us,r1,p1⟩:=q1.real I
  obtain⟨ts,r2,p2⟩:=q2.real I
  have l1:=r1.length
  have l2:=r2.length
  obtain⟨hz,hTI,⟨a,c,hTO⟩,h1,h2⟩:=st
  have inC:∀b,b∈[z,TO,i1,i2]->FpOk X pins H b:=λb hb=>hf b (by
   have hb':b=z\/b=TO\/b=i1\/b=i2:=by simpa using hb
   rcases hb' with rfl|rfl|rfl|rfl <;> simp)
  refine QaN (I.ok.hd hc) D hz hTI hTO h1 h2 p1 p2 (by
   rcases hl with z|z
   ·exact .inl (by simp;omega)
   ·exact .inr (by simp;omega)) λh' hk=>⟨rfl,?_⟩
  have hk':∀b o,b∉[z,TO,i1,i2]->s.heap.get? b=some o->h'.get? b=some o:=λb o hb e=>hk b o (λq=>hb (by simp[q])) (λq=>hb (by simp[q])) (λq=>hb (by simp[q])) (λq=>hb (by simp[q])) e
  have nC:∀b v,H b=some v->b∉[z,TO,i1,i2]:=λb v e hb=>by rw[(inC b hb).1]at e;cases e
  refine I.step (g':=s.gens) (t':=s.toks) (d':=s.drawn) (ch:=[z,TO,i1,i2]) (λb hb=>⟨(inC b hb).2.2.2.1,(inC b hb).2.1,(inC b hb).2.2.2.2.1,(inC b hb).2.2.2.2.2⟩) (λb o _ _ hb e _=>hk' b o hb e) (λb o _ _ hb e _=>⟨o.slots,hk' b o hb e⟩)
   (λb o hb e n=>n) (λb o hb e=>⟨o,hk' b o hb e⟩) (λb v e=>e) (λb o v e=>e) (λb ps e=>⟨#[],by rw[e];simp⟩) (λm hm=>?_) (λb v e=>?_) I.bare
  ·obtain⟨o,es,ep,ho,rr⟩:=hm
   exact⟨o,es,ep,hk' _ o (λhb=>(inC _ hb).2.1 rfl) ho,rr⟩
  ·refine(I.hok b v e).stay (λc' v' hc' q=>?_) (λc' q=>q) λc' xs' q=>q
   rcases hc' with rfl|hc'
   ·exact hk' _ _ (nC _ _ e) q
   ·exact hk' _ _ (nC _ _ hc') q
 self:=λ_ _ _ _ _ st h=>wpAny_pyIter_zip st.1 h
section
variable{X:Cx}{ca:Nat->Addr}{e1 e2:Expr}{m1 m2:ME}{p pos tp:Pos}{elts:List Expr}{kk:Nat}
theorem QiJ{ta:TA}(hg:Gl X "zip")(hm:X.mg "zip" = none)(ha:PA X [e1,e2] ta)(hs:starEach [e1,e2] X.env=[(false,eval e1 X.env),(false,eval e2 X.env)])(hs2:starEach [e2] X.env=[(false,eval e2 X.env)]):
  PI X (.Tuple elts kk tp) (.Call (.Name "zip" p) [e1,e2] [] pos) (λσ H R=>ta σ H λvs H1=>∃b1 b2 a1 a2 xs ys,vs=[.ref a1,.ref a2]/\Sq b1 X.K H1 a1 xs/\Sq b2 X.K H1 a2 ys/\R (Itz X.K b1 b2 a1 a2) H1):=by
 intro pins s σ H R I h
 refine Call_ (Qao I hg hm boot_zip (To (thn (ha pos pins s σ H _ I h) λus s1 ⟨vs,H1,I1,r1,q1⟩=>?_) (by rw[hs,hs2]) (by rw[hs2];rfl)))
 obtain⟨b1,b2,a1,a2,xs,ys,rfl,q1,q2,q⟩:=q1
 cases r1 with
 |cons ru rr =>
  cases rr with
  |cons rt rr =>
   cases rr
   cases ru
   cases rt
   obtain⟨its1,v1,p1⟩:=q1.real I1
   obtain⟨its2,v2,p2⟩:=q2.real I1
   refine QfI p1 p2 λh' hz hTI hTO hi1 hi2 hsz hk=>wpAny_pyIter_zip hz ?_
   have I2:Inv X pins σ H1 {s1 with heap:=h'}:=I1.kept (t':=s1.toks) hk
   refine⟨s1.heap.objs.size+4,_,_,_,H1,rfl,I2,QfJ b1 b2 _ (s1.heap.objs.size+2) (s1.heap.objs.size+3) s1.heap.objs.size (s1.heap.objs.size+1) a1 a2 (PyProof.Rows.zipApart_new p1.lt p2.lt),⟨hz,hTI,⟨_,_,hTO⟩,hi1,hi2⟩,λb hb=>?_,q⟩
   have hb':b=s1.heap.objs.size+4\/b=s1.heap.objs.size+2\/b=s1.heap.objs.size+3\/b=s1.heap.objs.size\/b=s1.heap.objs.size+1:=by simpa using hb
   have hle:s1.heap.objs.size<=b:=by rcases hb' with h|h|h|h|h <;> rw[h] <;> first|exact Ul _|exact Nat.le_add_right _ _
   exact I1.fpOk hle (I1.hok.fresh hle)
theorem Z6{K:Frag}{μ:List Addr}{H:Hp}{g:G}{v:V}{d:D}{b:Bool}{ds:List D}(r:GRep K ca μ H g)(q:Den K μ H v d)(h:Qs g d=some (b,ds)):∃a vs,v=.ref a/\Sq b K H a vs/\Dens K μ H vs ds:=by
 cases q with
 |@tup a vs es ht hs=>cases h;exact⟨a,vs,rfl,ht,hs⟩
 |@fl a vs es ht hs=>cases h;exact⟨a,vs,rfl,ht.sq,hs⟩
 |@ref n a hn =>
  unfold Qs at h
  dsimp only at h
  cases hg:g[n]? with
  |none=>rw[hg]at h;cases h
  |some o =>
   rw[hg]at h
   obtain⟨a',ha',ob⟩:=r.addr hg
   rw[hn]at ha';cases ha'
   cases o with
   |lst es=>cases h;obtain⟨vs,hH,q⟩:=ob;exact⟨a,vs,rfl,SqL.of hH,q⟩
   |_=>cases h
 |_=>cases h
theorem Je{K:Frag}{μ:List Addr}{H:Hp}{g g':G}{μ':List Addr}{H':Hp}{d:D}{v:V}{b b':Bool}{ds ds':List D}(h:Qs g d=some (b,ds))(h':Qs g' d=some (b',ds')):b=b':=by
 unfold Qs at h h'
 cases d with
 |tup es=>cases h;cases h';rfl
 |fl es=>cases h;cases h';rfl
 |ref n =>
  dsimp only at h h'
  have k1:b=true:=by
   cases hg:g[n]? with
   |none=>rw[hg]at h;cases h
   |some o=>rw[hg]at h;cases o <;> cases h <;> rfl
  have k2:b'=true:=by
   cases hg:g'[n]? with
   |none=>rw[hg]at h';cases h'
   |some o=>rw[hg]at h';cases o <;> cases h' <;> rfl
  rw[k1,k2]
 |_=>cases h
theorem Qhd{K:Frag}{μ:List Addr}{H:Hp}{g:G}{v1 v2:V}{d1 d2:D}{b1 b2:Bool}{xs ys:List D}{t:Nat}(q1:Den K μ H v1 d1)(q2:Den K μ H v2 d2)(h1:Qs g d1=some (b1,xs))(h2:Qs g d2=some (b2,ys)){a1 a2:Addr}(e1:v1=.ref a1)(e2:v2=.ref a2):
  Sim K ca μ H ⟨λg i=>(match Qs g d1,Qs g d2 with
  |some (_,xs),some (_,ys)=>(match xs[i]?,ys[i]? with
   |some x,some y=>some (some (.tup [x,y]))
   |_,_=>some none)
  |_,_=>none),t⟩ (Itz K b1 b2 a1 a2):=by
 intro i H1 μ1 g1 ex r
 dsimp only
 cases k1:Qs g1 d1 with
 |none=>trivial
 |some p1 =>
  obtain⟨c1,xs1⟩:=p1
  cases k2:Qs g1 d2 with
  |none=>trivial
  |some p2 =>
   obtain⟨c2,ys1⟩:=p2
   have f1:=Je (K:=K) (μ:=μ) (H:=H) (μ':=μ) (H':=H) (v:=v1) h1 k1
   have f2:=Je (K:=K) (μ:=μ) (H:=H) (μ':=μ) (H':=H) (v:=v1) h2 k2
   subst f1 f2
   obtain⟨z1,vs,w1,s1,d1s⟩:=Z6 r (q1.mono ex) k1
   obtain⟨z2,ws,w2,s2,d2s⟩:=Z6 r (q2.mono ex) k2
   rw[e1]at w1;cases w1
   rw[e2]at w2;cases w2
   dsimp only
   cases hx:xs1[i]? with
   |none =>
    refine⟨vs,ws,s1,s2,.inl ?_⟩
    rw[d1s.length];exact UZ.mp hx
   |some x =>
    cases hy:ys1[i]? with
    |none =>
     refine⟨vs,ws,s1,s2,.inr ?_⟩
     rw[d2s.length];exact UZ.mp hy
    |some y =>
     obtain⟨vx,hvx,qx⟩:=d1s.get hx
     obtain⟨vy,hvy,qy⟩:=d2s.get hy
     refine⟨⟨vs,ws,vx,vy,s1,s2,hvx,hvy⟩,λv H' yl=>?_⟩
     obtain⟨pp,x',y',hp,rfl,rfl,u1,u2⟩:=yl
     have:=u1 vs s1
     rw[hvx]at this;cases this
     have:=u2 ws s2
     rw[hvy]at this;cases this
     exact⟨QD hp,r.new hp,.tup (.of Ql) (.cons (qx.mono (QD hp)) (.cons (qy.mono (QD hp)) .nil))⟩
theorem QjH(hm:X.mg "zip" = none)(h1:PE3 ca X e1 m1)(h2:PE3 ca X e2 m2)(hg:Gl X "zip":=by rfl)(hs:starEach [e1,e2] X.env=[(false,eval e1 X.env),(false,eval e2 X.env)]:=by rfl)(hs2:starEach [e2] X.env=[(false,eval e2 X.env)]:=by rfl)(hs3:starEach [e1,e2] X.env=(false,eval e1 X.env)::starEach [e2] X.env:=by rfl):PI3 ca X (.Tuple elts kk tp) (.Call (.Name "zip" p) [e1,e2] [] pos) (Qcz m1 m2) :=
 λpn Φ=>JM (QiJ (X:=xat X ca pn Φ) hg hm (ZY h1 (ZY h2 Qp hs2) hs3 pn Φ) hs hs2) λσ H R hQ=>by
  obtain⟨σ3,g,μ,Rp,q⟩:=hQ
  refine⟨σ3,g,μ,Rp,?_⟩
  unfold Qcz at q
  unfold Qa mNil
  cases hm1:m1 σ3 g with
  |raise _ _=>rw[hm1]at q;exact q
  |stuck=>rw[hm1]at q;exact q.elim
  |ok d1 g1 =>
   rw[hm1,Res.bind_ok]at q
   rw[Res.bind_ok]
   cases hm2:m2 σ3 g1 with
   |raise _ _=>rw[hm2]at q;exact q
   |stuck=>rw[hm2]at q;exact q.elim
   |ok d2 g2 =>
    rw[hm2,Res.bind_ok]at q
    rw[Res.bind_ok,Res.bind_ok,Res.bind_ok]
    intro vs H1 μ1 ex r1 q1
    cases q1 with
    |@cons v1 _ _ _ n1 q1 =>
     cases q1 with
     |@cons v2 _ _ _ n2 q1 =>
      cases q1
      unfold Qcy at q
      cases k1:Qs g2 d1 with
      |none=>rw[k1]at q;exact q.elim
      |some p1 =>
       obtain⟨b1,xs⟩:=p1
       cases k2:Qs g2 d2 with
       |none=>rw[k1,k2]at q;exact q.elim
       |some p2 =>
        obtain⟨b2,ys⟩:=p2
        rw[k1,k2]at q
        obtain⟨a1,us,rfl,s1,_⟩:=Z6 r1 n1 k1
        obtain⟨a2,ts,rfl,s2,_⟩:=Z6 r1 n2 k2
        exact⟨b1,b2,a1,a2,us,ts,rfl,s1,s2,q _ H1 μ1 ex r1 (Qhd n1 n2 k1 k2 rfl rfl)⟩
end
theorem Yk(K:Frag)(t c:Ty):kitOne K (.type t.name) (.type c.name)=some (tyLe t c):=by
 cases t <;> cases c <;> kernel_rfl
section
variable{X:Cx}{ca:Nat->Addr}{a b c e:Expr}{ma mb mc me:ME}{pos p p2:Pos}{k:Nat}
theorem Qes(c:Ty):CallR X (.builtin "isinstance") (λxs H Q=>∃x g μ d t,xs=[x,.ty c.name]/\GRep X.K ca μ H g/\Den X.K μ H x d/\tyOf g d=some t/\Q (.bl (tyLe t c)) H):=by
 intro pins s σ H xs us Q I rv h
 obtain⟨x,g,μ,d,t,rfl,r,q,ht,qq⟩:=h
 obtain⟨u,u2,rfl,ru,ru2⟩:=rv.two
 cases ru2
 have fin:∀tk,EP X pins σ Q (.bool (tyLe t c)) {s with toks:=tk}:=λtk=>⟨.bl _,H,I.tok tk,rfl,qq⟩
 cases q with
 |non=>cases ht;exact Zy I ru .non (Yk X.K .non c) fin
 |bl y=>cases ht;exact Zy I ru (.bl y) (Yk X.K .bool c) fin
 |int y=>cases ht;exact Zy I ru (.int y) (Yk X.K .int c) fin
 |str y=>cases ht;exact Zy I ru (.str y) (Yk X.K .str c) fin
 |@tup a vs ds hq hs =>
  cases ht
  cases ru
  obtain⟨its,_,⟨o,h1,h2,_⟩,_⟩:=I.tuple hq
  exact UQ kitx_tuple I.kIn ⟨o,h1,h2⟩ (Yk X.K .tuple c) (λz=>nomatch z) fin
 |@fl a vs ds hq hs =>
  cases ht
  cases ru
  obtain⟨its,_,p,_⟩:=I.list hq.sq
  obtain⟨o,h1,h2,_⟩:=p.isList
  exact UQ We I.kIn ⟨o,h1,h2⟩ (Yk X.K .list c) (λz=>nomatch z) fin
 |@ref n a hn =>
  unfold tyOf at ht
  dsimp only at ht
  cases hg:g[n]? with
  |none=>rw[hg]at ht;cases ht
  |some o =>
   rw[hg]at ht
   obtain⟨a',ha',ob⟩:=r.addr hg
   rw[hn]at ha';cases ha'
   cases o with
   |lst ds=>cases ht;obtain⟨vs,hH,_⟩:=ob;exact Zy I ru (.lst hH) (Yk X.K .list c) fin
   |dct ks=>cases ht;obtain⟨kv,hH,_⟩:=ob;exact Zy I ru (.dK hH) (Yk X.K .dict c) fin
   |ins _ _=>cases ht
   |exc _=>cases ht
theorem ZO{x:Str}(c:Ty)(hi:X.mg "isinstance" = none)(hm:X.mg x=none)(hv:bootBuiltins x=some (.type c.name))(he:PE3 ca X e me)(hgi:Gl X "isinstance":=by rfl)(hg:Gl X x:=by rfl)(hnm:x ≠ "__name__":=by decide)(hdb:(x == ("__debug__" : Str))=false:=by decide)(hs:starEach [e,.Name x p2] X.env=(false,eval e X.env)::starEach [.Name x p2] X.env:=by rfl)(hs2:starEach [.Name x p2] X.env=(false,eval (.Name x p2) X.env)::starEach [] X.env:=by rfl)(hpl:(backTo pos (starEach [.Name x p2] X.env)).any (·.1)=false:=by rfl):
  PE3 ca X (.Call (.Name "isinstance" p) [e,.Name x p2] [] pos) (mOp1 (Yg c) me) :=
 λpn Φ=>QS (Z4 (X:=xat X ca pn Φ) (Qes (ca:=ca) c) hgi hi Rk (Q6 (X:=xat X ca pn Φ) (he pn Φ) (Q6 (X:=xat X ca pn Φ) (QdL (X:=xat X ca pn Φ) (v:=.ty c.name) hg hm hv rfl hnm hdb) YN hs2) hs) (by decide) (by decide) hs hpl) λσ H Q ⟨σ3,g,μ,R,q⟩ =>
  QJ (Yc R q) λy H1 hQ=>by
   obtain⟨d,g1,μ1,e1,R1,q1,p1⟩:=hQ
   unfold Yg at p1
   cases ht:tyOf g1 d with
   |none=>rw[ht]at p1;exact p1.elim
   |some t=>rw[ht]at p1;exact⟨y,g1,μ1,d,t,rfl,R1.g,q1,ht,p1 _ H1 μ1 .refl R1.g (.bl _)⟩
theorem QcM{K:Frag}{μ:List Addr}{H:Hp}:∀{vs:List V}{ds:List D}{us:List Value}{b:Bool},Dens K μ H vs ds->Vals vs us->allB ds=some b->∃bs:List Bool,us=bs.map Value.bool/\bs.all id=b
 |_,_,_,b,.nil,.nil,h=>by cases h;exact⟨[],rfl,rfl⟩
 |_,_,_,b,@Dens.cons _ _ _ _ _ _ ds q qs,.cons r rs,h=>by
  cases q with
  |bl c =>
   unfold allB at h
   cases hd:allB ds with
   |none=>rw[hd]at h;cases h
   |some d =>
    rw[hd]at h
    cases h
    obtain⟨bs,h1,h2⟩:=QcM qs rs hd
    cases r
    exact⟨c::bs,by rw[h1];rfl,by simp[h2]⟩
  |_=>cases h
theorem Qet(bs:List Bool):((List.range bs.length).all λi=>(bs[i]?).getD true)=bs.all id:=by
 rw[TW,Ux,Ux]
 constructor
 ·intro h b hb
  obtain⟨i,hi,rfl⟩:=Rc hb
  have:=h i (Ry.mpr hi)
  simpa[hi]using this
 ·intro h i hi
  have hi':=Ry.mp hi
  have:=h bs[i] (Ut hi')
  simpa[hi']using this
theorem Qeu(hc:X.calm=true):CallR X (.builtin "all") (λxs H Q=>∃p vs ds μ b,xs=[.ref p]/\SqL X.K H p vs/\Dens X.K μ H vs ds/\allB ds=some b/\Q (.bl b) H):=by
 intro pins s σ H xs us Q I rv h
 obtain⟨l,vs,ds,μ,b,rfl,hq,q,hb,qq⟩:=h
 obtain⟨u,rfl,ru⟩:=rv.one
 cases ru
 obtain⟨its,rs,pl,_⟩:=I.list hq
 obtain⟨bs,rfl,e2⟩:=QcM q rs hb
 have hl:=pl.isList
 have hlt:l<s.heap.objs.size:=by obtain⟨_,e,_⟩:=hl;exact Um e
 refine call_all_walk (Wg hl ⟨s.heap.objs.size,[s.heap.objs.size,l],[s.heap.objs.size],_,_,_,λi=>(bs[i]?).getD true,rfl,Walks.list (A:=X.A.in1) (show X.A.in1.handled=none from I.ok.hd hc) _ l (UK hlt) _,⟨⟨_,Ur _ rfl,rfl,rfl⟩,hl.push _⟩,λi v s' Q' E' hP hQ=>?_,λh' tk hk=>?_⟩)
 ·have hP:(bs.map Value.bool).toArray[i]?=some v:=hP
  rw[List.getElem?_toArray,UA]at hP
  cases hi:bs[i]? with
  |none=>rw[hi]at hP;cases hP
  |some c =>
   rw[hi]at hP
   cases hP
   simp only[hi,Option.getD_some]at hQ
   exact Ti hQ
 ·have kept:∀c o,s.heap.get? c=some o->h'.get? c=some o:=λc o e=>hk c o (λhm=>by rw[Ug.mp hm]at e;exact TD _ (Um e)) (Ub _ e)
  have ea:((List.range (bs.map Value.bool).toArray.size).all λi=>(bs[i]?).getD true)=b:=by
   rw[Us,Uc,Qet,e2]
  rw[ea]
  exact⟨.bl b,H,I.kept kept,rfl,qq⟩
theorem Qev(hc:X.calm=true)(hm:X.mg "all" = none)(he:PE3 ca X e me)(hg:Gl X "all":=by rfl)(hs:starEach [e] X.env=[(false,eval e X.env)]:=by rfl)(hpl:(backTo pos (starEach [] X.env)).any (·.1)=false:=by rfl):
  PE3 ca X (.Call (.Name "all" p) [e] [] pos) (mOp1 pAll me) :=
 QiG (r:=λxs H Q=>∃p vs ds μ b,xs=[V.ref p]/\SqL X.K H p vs/\Dens X.K μ H vs ds/\allB ds=some b/\Q (.bl b) H) (λpn Φ=>Qeu (X:=xat X ca pn Φ) hc) hm boot_all (λΦ σ H μ g y d Q r q pp=>by
  unfold pAll at pp
  cases q with
  |@ref n t hn =>
   dsimp only at pp
   cases hgn:g[n]? with
   |none=>rw[hgn]at pp;exact pp.elim
   |some ob =>
    rw[hgn]at pp
    obtain⟨t',ht',orp⟩:=r.addr hgn
    rw[hn]at ht';cases ht'
    cases ob with
    |lst ds =>
     obtain⟨vs,hH,q⟩:=orp
     dsimp only at pp
     cases hb:allB ds with
     |none=>rw[hb]at pp;exact pp.elim
     |some b=>rw[hb]at pp;exact⟨t,vs,ds,μ,b,rfl,.of hH,q,hb,pp _ H μ .refl r (.bl _)⟩
    |_=>exact pp.elim
  |_=>exact pp.elim) he hg (by decide) (by decide) hs hpl
theorem QcN{K:Frag}{Φ:XS}{r r':R2}{f f':D->D->G->Res D}(h1:Yd K ca r f)(h2:Yd K ca r' f')(σ:L2.St)(H:Hp)(Q:VK)(h:up K ca Φ (Yz f f' ma mb mc) σ H Q):Qgo r r' (up K ca Φ ma) (up K ca Φ mb) (up K ca Φ mc) σ H Q:=by
 obtain⟨σ3,g,μ,R,p⟩:=h
 refine QJ (Yc R p) λx H1 ⟨dx,g1,μ1,e1,R1,q1,p1⟩=>?_
 refine QJ (Yc R1 p1) λy H2 ⟨dy,g2,μ2,e2,R2,q2,p2⟩=>?_
 refine h1 Φ σ H2 μ2 g2 x y dx dy _ R2.g (q1.mono e2) q2 ?_
 cases hf:f dx dy g2 with
 |raise _ _=>rw[hf]at p2;exact p2
 |stuck=>rw[hf]at p2;exact p2.elim
 |ok z g3 =>
  rw[hf,Res.bind_ok]at p2
  intro v H3 μ3 e3 r3 q3
  cases q3 with
  |bl t =>
   refine⟨t,rfl,?_⟩
   cases t with
   |true =>
    rw[Uf rfl]
    dsimp only at p2
    refine QJ (Yc (R2.go e3 r3) (p2.go e3)) λw' H4 ⟨dw,g4,μ4,e4,R4,q4,p4⟩=>?_
    exact h2 Φ σ H4 μ4 g4 y w' dy dw Q R4.g ((q2.mono e3).mono e4) q4 p4
   |false =>
    rw[Uh Ud]
    exact p2 _ H3 μ3 e3 r3 (.bl _)
  |_=>exact p2.elim
theorem QiK(ha:PE3 ca X a ma)(hb:PE3 ca X b mb)(hc:PE3 ca X c mc)(hm:lastMarks [.LtE,.Lt] [b,c]=false:=by with_unfolding_all rfl):PE3 ca X (.Compare a [.LtE,.Lt] [b,c] pos) (Yz pLe pLt ma mb mc) :=
 λpn Φ=>QS (Qcw (X:=xat X ca pn Φ) QgQ Qig (ha pn Φ) (hb pn Φ) (hc pn Φ) hm) (QcN (Yt _) (Yt _))
theorem QiL(ha:PE3 ca X a ma)(hb:PE3 ca X b mb)(hc:PE3 ca X c mc)(hm:lastMarks [.LtE,.LtE] [b,c]=false:=by with_unfolding_all rfl):PE3 ca X (.Compare a [.LtE,.LtE] [b,c] pos) (Yz pLe pLe ma mb mc) :=
 λpn Φ=>QS (Qcw (X:=xat X ca pn Φ) QgQ QgQ (ha pn Φ) (hb pn Φ) (hc pn Φ) hm) (QcN (Yt _) (Yt _))
theorem Qgu{K:Frag}{μ:List Addr}{H:Hp}{v:V}{d:D}(q:Den K μ H v d)(h:Qam d=true):Qal v=true:=by cases q <;> first|rfl|cases h
theorem Qew{K:Frag}{μ:List Addr}{H:Hp}:∀{vs:List V}{ds:List D},Dens K μ H vs ds->ds.all Qam=true->vs.all Qal=true
 |_,_,.nil,_=>rfl
 |_,_,.cons q qs,h=>by
  rw[Wm,UC]at h ⊢
  exact⟨Qgu q h.1,Qew qs h.2⟩
theorem QjI{K:Frag}{μ:List Addr}{H:Hp}{v w:V}{d e:D}(q:Den K μ H v d)(q':Den K μ H w e)(h:Qam d=true)(h':Qam e=true):eqV v w=eqF d e:=by
 cases q <;> cases q' <;> first|rfl|cases h|cases h'
theorem QiM{K:Frag}{μ:List Addr}{H:Hp}{w:V}{e:D}(q':Den K μ H w e)(h':Qam e=true):∀{vs:List V}{ds:List D},Dens K μ H vs ds->ds.all Qam=true->(vs.any λy=>eqV y w)=ds.any λd=>eqF d e
 |_,_,.nil,_=>rfl
 |_,_,.cons q qs,h=>by
  rw[Wm,UC]at h
  rw[TH,TH,QjI q q' h.1 h',QiM q' h' qs h.2]
theorem Qhe{K:Frag}(neg:Bool):Yd K ca (rIn K neg) (pIn neg):=by
 intro Φ σ H μ g x y dx dy Q r qx qy p
 unfold pIn at p
 cases hs:Qs g dy with
 |none=>rw[hs]at p;exact p.elim
 |some pr =>
  obtain⟨bb,ds⟩:=pr
  rw[hs]at p
  dsimp only at p
  by_cases z:Qam dx=true/\ds.all Qam=true
  ·rw[Uf z]at p
   obtain⟨a,vs,rfl,sq,qs⟩:=Z6 r qy hs
   refine⟨a,vs,rfl,?_,Qgu qx z.1,Qew qs z.2,p _ H μ .refl r ?_⟩
   ·cases bb
    ·exact .inr sq
    ·exact .inl sq
   ·unfold inV
    rw[QiM qx z.1 qs z.2]
    cases neg <;> exact .bl _
  ·rw[Uh z]at p;exact p.elim
theorem r_in(ha:PE3 ca X a ma)(hb:PE3 ca X b mb)(hm:behindInMarks .In b=false:=by rfl):PE3 ca X (.Compare a [.In] [b] pos) (mOp2 (pIn false) ma mb):=Qdk (λ_ _=>Qd1) (Qhe false) ha hb hm
end
section
variable{prog:Program}{w:World}{A:Around}{E:Value->Shared->Prop}{s:Shared}
end
theorem QiN(n d:Nat)(o:Option Int):HT.sIx n d o=sIxD n d o:=by cases o <;> rfl
theorem Dens.cut{K:Frag}{μ:List Addr}{H:Hp}{vs:List V}{ds:List D}(lo hi:Option Int)(h:Dens K μ H vs ds):Dens K μ H (cutV vs lo hi) (cutD ds lo hi):=by
 unfold cutV cutD
 rw[QiN,QiN,h.length]
 exact(h.drop _).take _
section
variable{X:Cx}{ca:Nat->Addr}{e:Expr}{me:ME}{lo hi:Option Expr}{ml mh:MO}{pos p2:Pos}
noncomputable def upO(K:Frag)(ca:Nat->Addr)(Φ:XS)(m:MO):TO:=λσ H Q=>∃σ3 g μ,Rep K ca μ σ3 g σ H/\match m σ3 g with
 |.ok o g'=>∀H' μ',Ext K μ H μ' H'->GRep K ca μ' H' g'->Q o H'
 |.raise x g'=>RaP K ca Φ σ H μ x g'
 |.stuck=>False
def PO3(ca:Nat->Addr)(X:Cx)(e:Option Expr)(m:MO):Prop:=∀pn Φ,PO (xat X ca pn Φ) e (upO X.K ca Φ m)
theorem QcO:PO3 ca X none YD:=λpn Φ pins s σ H Q I ⟨_,_,μ,R,p⟩=>QgZ (X:=xat X ca pn Φ) pins s σ H Q I (p H μ .refl R.g)
theorem Qgv(he:PE3 ca X e me):PO3 ca X (some e) (Qbq me):=λpn Φ pins s σ H Q I hQ=>by
 obtain⟨σ3,g,μ,R,p⟩:=hQ
 refine Qg0 (X:=xat X ca pn Φ) (he pn Φ) pins s σ H Q I ⟨σ3,g,μ,R,?_⟩
 unfold Qbq at p
 cases hm:me σ3 g with
 |raise _ _=>rw[hm]at p;exact p
 |stuck=>rw[hm]at p;exact p
 |ok d g1 =>
  rw[hm,Res.bind_ok]at p
  intro v H1 μ1 e1 r1 q1
  cases q1 with
  |int i=>exact⟨i,rfl,p H1 μ1 e1 r1⟩
  |_=>exact p.elim
theorem Qex(he:PE3 ca X e me)(hl:PO3 ca X lo ml)(hh:PO3 ca X hi mh):PE3 ca X (.Subscript e (.Slice lo hi none p2) pos) (JH me ml mh):=λpn Φ =>
 QS (Qfx (X:=xat X ca pn Φ) Qg2 (he pn Φ) (hl pn Φ) (hh pn Φ)) λσ H Q ⟨σ3,g,μ,R,p⟩=>QJ (Yc R p) λx H1 hQ=>by
  obtain⟨d,g1,μ1,e1,R1,q1,p1⟩:=hQ
  refine⟨σ3,g1,μ1,R1,?_⟩
  cases hm:ml σ3 g1 with
  |raise _ _=>rw[hm]at p1;exact p1
  |stuck=>rw[hm]at p1;exact p1
  |ok l g2 =>
   rw[hm,Res.bind_ok]at p1
   intro H2 μ2 e2 r2
   refine⟨σ3,g2,μ2,R1.go e2 r2,?_⟩
   cases hm2:mh σ3 g2 with
   |raise _ _=>rw[hm2]at p1;exact RaP.go e2 p1
   |stuck=>rw[hm2]at p1;exact p1
   |ok u g3 =>
    rw[hm2,Res.bind_ok]at p1
    intro H3 μ3 e3 r3
    have p3:=Post.go (e2.trans e3) p1
    have q3:=(q1.mono e2).mono e3
    unfold QcA at p3
    cases q3 with
    |@ref n a hn =>
     dsimp only at p3
     cases hg:g3[n]? with
     |none=>rw[hg]at p3;exact p3.elim
     |some o =>
      rw[hg]at p3
      obtain⟨a',ha',ob⟩:=r3.addr hg
      rw[hn]at ha';cases ha'
      cases o with
      |lst ds =>
       obtain⟨vs,hH,hs⟩:=ob
       refine⟨a,vs,rfl,.of hH,λt ht'=>p3 _ _ (μ3++[t]) (QA ht') (r3.push ht' ⟨_,Ql,(hs.cut l u).mono (QA ht')⟩) (.ref ?_)⟩
       rw[<-r3.len];simp
      |_=>exact p3.elim
    |_=>exact p3.elim
end
abbrev bmV:List Value:=[.type "ValueError",.type "Exception",.type "BaseException",.type "object"]
structure ExK(K:Frag)(C:Addr):Prop where
 ga:findIn K (.ref C) "__getattribute__" = some (some (.builtin "BaseException.__getattribute__"))
 gx:findIn K (.ref C) "__getattr__" = some none
 cl:findIn K (.ref C) "__class__" = some (some (.builtin "object.__class__"))
 gt:specialIn K (.builtin "object.__class__") "__get__" = some (some (.builtin "getset_descriptor.__get__"))
 tk:takesIn K (.builtin "object.__class__")=some true
 mr:mroIn K C (.type "object")=some true
 sb:subIn K (.ref C) (.type "BaseException")=some true
 ci:(clsIn K C).isSome=true
section
variable{prog:Program}{w:World}{A:Around}{E:Value->Shared->Prop}{s:Shared}{K:Frag}{C e:Addr}{oe:Obj}{vs:Array Value}
theorem QcP{h:Heap}{H:Hp}{l:Option Nat}{dd:Option Addr}(hok:HOk prog w H h)(hx:h.get? e=some oe)(hc:oe.cls=.ref C/\oe.dict=dd)(hd:oe.data=.fields vs)(hL:LnH H l dd):∃od,PySem.W.InstAt h e oe C od:=by
 have no:notCls oe=true:=by obtain⟨c,d,dt,sl⟩:=oe;obtain rfl:dt=_:=hd;rfl
 cases dd with
 |none=>exact⟨none,hx,hc.1,no,by rw[hc.2];trivial⟩
 |some dx =>
  cases l with
  |none=>exact(show False from hL).elim
  |some n =>
   obtain⟨_,⟨od,_,_,q,_⟩,_⟩:=hok dx _ hL
   exact⟨some od,hx,hc.1,no,by rw[hc.2];exact q⟩
variable{od:Option Obj}
theorem Qhf(F:ExK K C):findObj K C od "__class__" = some (.bind (.builtin "getset_descriptor.__get__") (.builtin "object.__class__")):=by
 obtain⟨cd,hc⟩:=Te.mp F.ci
 unfold findObj
 rw[hc,Option.bind_some,F.cl,Option.bind_some]
 simp[F.gt,F.tk]
theorem QcQ{nm:Value}{Q:Unit->Shared->Prop}(X:K.In s.heap)(F:ExK K C)(I:PySem.W.InstAt s.heap e oe C od)(hq:Q () s):wpAny (model prog w) A (checkBuiltinCall "BaseException.__getattribute__" ⟨[.ref e,nm],[]⟩) Q E s:=by
 obtain⟨h,g,d,t,os⟩:=s
 have hk:builtinKind "BaseException.__getattribute__" = some .slot:=by decide +kernel
 have hsplit:splitId "BaseException.__getattribute__" = some ("BaseException", "__getattribute__"):=by decide +kernel
 have L0:=I.type (M:=model prog w)
 have L1:=RT (M:=model prog w) X F.sb
 have ha:=PySem.F.args_bexc_ga (.ref e) nm
 simp only[checkBuiltinCall,hk,hsplit]
 unfold isInstance
 refine Ua (Ua (L0.at (L1.at ?_)))
 repeat (first|exact hq|wp_step)
theorem Qey{Q:Option Value->Shared->Prop}(X:K.In s.heap)(F:ExK K C)(I:PySem.W.InstAt s.heap e oe C od)(h:Q (some (.ref C)) {s with toks:=s.toks+1}):wpAny (model prog w) A (getAttr? (.ref e) "__class__") Q E s:=by
 obtain⟨hh,g,d,t,os⟩:=s
 have L0:=I.type (M:=model prog w)
 have L1:=Tf (M:=model prog w) X F.ga
 have L2:=Tf (M:=model prog w) X F.gx
 have L3:=looks_find (M:=model prog w) X I (Qhf F)
 have hb:=Wp.ga.bind (.ref e)
 unfold getAttr? getAttrBy? getAttrBy
 refine Ua (wpAny_mkText (Ua (RJ (U9 (Ua (L0.at (Ua (L1.at ?_))))))))
 show wpAny _ _ (getAttrByItsOwn _ _ _ _ _ _) _ _ _
 unfold getAttrByItsOwn hookBefore callGetattribute boundAndCalled
 refine Ua (L2.at ?_)
 refine Ua (RJ (U9 ?_))
 show wpAny _ _ (bindSpecial (.builtin "BaseException.__getattribute__") (.ref e) >>= _) _ _ _
 rw[hb]
 refine Ua (Uk ?_)
 refine Rt (T6 Wp.ga.plain WB (QcQ (s:=⟨hh,g,d,t+1,os⟩) X F I ?_))
 unfold Builtin.«object.__getattribute__»
 refine Ua (RM (a:=(Value.ref e,[Value.str "__class__" t])) rfl ?_)
 refine Ua (RM (a:=Str.ofString "__class__") rfl ?_)
 refine Ua (L0.at (Ua (L3.at ?_)))
 show wpAny _ _ (Builtin.ObjectAttr.bindTo (.builtin "getset_descriptor.__get__") (.builtin "object.__class__") (.ref e) (.ref C)) _ _ _
 refine Ua (U9 (Rt (class_get (s:=⟨hh,g,d,t+1,os⟩) (od:=od) X I F.mr ?_)))
 refine Uk ?_
 show wpAny (model prog w) A (handedOut (Value.ref C)) _ _ _
 exact Uk (Uk h)
theorem QcR(F:ExK K C):KitX K (.ref e) (.ref C) (λh=>∃o od,PySem.W.InstAt h e o C od) where
 ty:=λM h _ ⟨o,od,h1⟩=>h1.type
 it:=λ_ _ X _=>by
  obtain⟨cd,hc⟩:=Te.mp F.ci
  unfold clsIn at hc
  split at hc
  ·rename_i c' d' cd' sl' ho
   intro A' Q' E' s' k q
   unfold isType loadHead
   exact Ua (Wa (k _ _ (X _ _ ho)) (Uk q))
  ·cases hc
 ne:=λh tp dd its n sl X htp=>by
  obtain⟨cd,hc⟩:=Te.mp F.ci
  refine Bool.eq_false_iff.mpr λq=>?_
  have z:C=tp:=Value.ref.inj (UT.mp q)
  subst z
  unfold clsIn at hc
  split at hc
  ·rename_i c' d' cd' sl' ho
   cases (X _ _ ho).symm.trans htp
  ·cases hc
 ca:=λX ⟨o,od,h1⟩ k=>Qey X F h1 k
end
structure IsX(K:Frag)(ca:Nat->Addr)(T:Value)(all cs:List Nat):Prop where
 ex:∀c∈all,ExK K (ca c)
 an:∀c∈all,kitOne K (.ref (ca c)) T=some (decide (c∈cs))
 no:kitOne K (.type "NoneType") T=some false
section
variable{X:Cx}{ca:Nat->Addr}{e:Expr}{me:ME}{pos p p2:Pos}{all cs:List Nat}
theorem Qar{u:V}{T:Value}(hu:∀v,L2.RelV u v->v=T)(h:IsX X.K ca T all cs):CallR X (.builtin "isinstance") (λxs H Q=>∃x g μ d b,xs=[x,u]/\GRep X.K ca μ H g/\Den X.K μ H x d/\Q5 all cs d g=.ok (.bl b) g/\Q (.bl b) H):=by
 intro pins s σ H xs us Q I rv z
 obtain⟨x,g,μ,d,b,rfl,r,q,ht,qq⟩:=z
 obtain⟨v,v2,rfl,rx,r2⟩:=rv.two
 have e2:v2=T:=hu v2 r2
 subst e2
 have fin:∀tk,EP X pins σ Q (.bool b) {s with toks:=tk}:=λtk=>⟨.bl _,H,I.tok tk,rfl,qq⟩
 cases q with
 |non=>cases ht;exact Zy I rx .non h.no fin
 |@ref n a hn =>
  unfold Q5 at ht
  dsimp only at ht
  cases hg:g[n]? with
  |none=>rw[hg]at ht;cases ht
  |some o =>
   rw[hg]at ht
   obtain⟨a',ha',ob⟩:=r.addr hg
   rw[hn]at ha';cases ha'
   cases o with
   |exc ex =>
    dsimp only at ht
    by_cases hm:ex.1∈all
    ·rw[Uf hm]at ht
     cases ht
     cases rx
     obtain⟨dd,ob,hL⟩:=ob
     obtain⟨⟨o,vs,h1,h2,h3⟩,_⟩:=I.hok a _ ob
     obtain⟨od,h1⟩:=QcP I.hok h1 h2 h3 hL
     exact UQ (QcR (h.ex _ hm)) I.kIn ⟨o,od,h1⟩ (h.an _ hm) (λz=>nomatch z) fin
    ·rw[Uh hm]at ht;cases ht
   |_=>cases ht
 |_=>cases ht
theorem QcS{K:Frag}{Φ:XS}{u:V}(σ:L2.St)(H:Hp)(Q:VK)(h:up K ca Φ (mOp1 (Q5 all cs) me) σ H Q):up K ca Φ me σ H λy H1=>∃x g μ d b,[y,u]=[x,u]/\GRep K ca μ H1 g/\Den K μ H1 x d/\Q5 all cs d g=.ok (.bl b) g/\Q (.bl b) H1:=by
 obtain⟨σ3,g,μ,R,q⟩:=h
 refine QJ (Yc R q) λy H1 ⟨d,g1,μ1,e1,R1,q1,p1⟩=>?_
 have:∃b,Q5 all cs d g1=.ok (.bl b) g1:=by
  unfold Q5 at p1 ⊢
  cases d with
  |non=>exact⟨false,rfl⟩
  |ref n =>
   dsimp only at p1 ⊢
   cases hg:g1[n]? with
   |none=>rw[hg]at p1;exact p1.elim
   |some o =>
    rw[hg]at p1
    cases o with
    |exc ex =>
     dsimp only at p1 ⊢
     by_cases hm:ex.1∈all
     ·rw[Uf hm];exact⟨_,rfl⟩
     ·rw[Uh hm]at p1;exact p1.elim
    |_=>exact p1.elim
  |_=>exact p1.elim
 obtain⟨b,hb⟩:=this
 rw[hb]at p1
 exact⟨y,g1,μ1,d,b,rfl,R1.g,q1,hb,p1 _ H1 μ1 .refl R1.g (.bl _)⟩
theorem QaP{x:Str}{C:Addr}(hi:X.mg "isinstance" = none)(hC:X.mg x=some (.ref C)/\IsX X.K ca (.ref C) all cs)(he:PE3 ca X e me)(hgi:Gl X "isinstance":=by rfl)(hg:Gl X x:=by rfl)(hdb:(x == ("__debug__" : Str))=false:=by decide)(hs:starEach [e,.Name x p2] X.env=(false,eval e X.env)::starEach [.Name x p2] X.env:=by rfl)(hs2:starEach [.Name x p2] X.env=(false,eval (.Name x p2) X.env)::starEach [] X.env:=by rfl)(hpl:(backTo pos (starEach [.Name x p2] X.env)).any (·.1)=false:=by rfl):
  PE3 ca X (.Call (.Name "isinstance" p) [e,.Name x p2] [] pos) (mOp1 (Q5 all cs) me):=λpn Φ =>
 QS (Z4 (X:=xat X ca pn Φ) (Qar (ca:=ca) (u:=.ref C) (λ_ h=>h) hC.2) hgi hi Rk (Q6 (X:=xat X ca pn Φ) (he pn Φ) (Q6 (X:=xat X ca pn Φ) (JB (X:=xat X ca pn Φ) (v:=.ref C) hg hC.1 rfl hdb) YN hs2) hs) (by decide) (by decide) hs hpl) λσ H Q h=>QcS σ H Q h
theorem Qez{x:Str}{T:String}(hi:X.mg "isinstance" = none)(hm:X.mg x=none)(hC:bootBuiltins x=some (.type T)/\IsX X.K ca (.type T) all cs)(he:PE3 ca X e me)(hgi:Gl X "isinstance":=by rfl)(hg:Gl X x:=by rfl)(hnm:x ≠ "__name__":=by decide)(hdb:(x == ("__debug__" : Str))=false:=by decide)(hs:starEach [e,.Name x p2] X.env=(false,eval e X.env)::starEach [.Name x p2] X.env:=by rfl)(hs2:starEach [.Name x p2] X.env=(false,eval (.Name x p2) X.env)::starEach [] X.env:=by rfl)(hpl:(backTo pos (starEach [.Name x p2] X.env)).any (·.1)=false:=by rfl):
  PE3 ca X (.Call (.Name "isinstance" p) [e,.Name x p2] [] pos) (mOp1 (Q5 all cs) me):=λpn Φ =>
 QS (Z4 (X:=xat X ca pn Φ) (Qar (ca:=ca) (u:=.ty T) (λ_ h=>h) hC.2) hgi hi Rk (Q6 (X:=xat X ca pn Φ) (he pn Φ) (Q6 (X:=xat X ca pn Φ) (QdL (X:=xat X ca pn Φ) (v:=.ty T) hg hm hC.1 rfl hnm hdb) YN hs2) hs) (by decide) (by decide) hs hpl) λσ H Q h=>QcS σ H Q h
end
section
variable{K:Frag}{C:Addr}{x:Str}{mg:Str->Option Value}{h:Heap}
theorem Qhg(X:K.In h)(e:mg x=some (.ref C))(q:excIn K C bmV "ValueError.__new__" = true):OwnCls x C bmV "ValueError.__new__" mg h:=by
 refine⟨e,?_⟩
 unfold excIn at q
 split at q
 ·rename_i dd cd sl ho
  split at q
  ·rename_i C' bm k0 k1 k2 k3 n k5 hm hs
   simp only[UC,UT,Wh]at q
   obtain⟨⟨⟨⟨⟨rfl,rfl⟩,hdel⟩,ht⟩,hok⟩,hni⟩:=q
   obtain⟨nm,bs,mro,ns,qn,hd,sn,sub,ab,col,del⟩:=cd
   dsimp only at hm hdel hok hni
   subst hm hdel
   have hsl:sl = #[k0,k1,k2,k3,some (.builtin "ValueError.__new__"),k5]:=by
    obtain⟨l⟩:=sl
    simp only at hs
    rw[hs]
   subst hsl
   exact⟨bm,ns,nm,qn,bs,hd,sn,sub,ab,col,dd,k0,k1,k2,k3,k5,_,X _ _ ho,.of_isNs (isNs_of_in X hok),nsMap_none_of_in X hok hni,tail_of_in X ht⟩
  ·cases q
 ·cases q
end
theorem Inv.there'{X:Cx}{pins:List (Addr×Obj)}{σ:L2.St}{H:Hp}{s:Shared}{a:Addr}{o:HO}(I:Inv X pins σ H s)(h:H a=some o):∃u,s.heap.get? a=some u:=by
 have:=I.hok a o h
 cases o with
 |lst xs=>obtain⟨_,_,_,_,e⟩:=this;exact⟨_,e⟩
 |tup xs=>obtain⟨_,_,_,u,e,_⟩:=this;exact⟨u,e⟩
 |dK kvs=>obtain⟨_,_,_,_,u,_,_,e,_⟩:=this;exact⟨u,e⟩
 |dT kvs=>obtain⟨_,_,_,_,u,_,_,e,_⟩:=this;exact⟨u,e⟩
 |set S n=>obtain⟨u,_,_,_,e,_⟩:=this;exact⟨u,e⟩
 |ins C dx fs=>obtain⟨_,_,_,e,_⟩:=this;exact⟨_,e⟩
 |own y=>exact this
 |xd fs=>obtain⟨_,⟨_,_,_,e,_⟩,_⟩:=this;exact⟨_,e⟩
 |met f x=>exact⟨_,this⟩
 |rng lo hi=>obtain⟨_,_,_,e⟩:=this;exact⟨_,e⟩
 |frz u v=>exact⟨_,this.1⟩
 |tbl ps=>exact⟨_,this⟩
 |ext φ=>exact this.2.1
structure RaH(K:Frag)(mg:Str->Option Value)(ca:Nat->Addr)(c:Nat)(x:Str):Prop where
 at':mg x=some (.ref (ca c))
 ex:excIn K (ca c) bmV "ValueError.__new__" = true
section
variable{X:Cx}{ca:Nat->Addr}{e:Expr}{es:List Expr}{mr:MA}{np cpos pos:Pos}{c:Nat}{x:Str}
theorem QaQ(h:RaH X.K X.mg ca c x)(hh:X.A.handled=none)(ha:PA3 ca X (e::es) mr)(hg:Gl X x:=by rfl)(hdb:(x == ("__debug__" : Str))=false:=by decide)(he:starEach (e::es) X.env=(false,eval e X.env)::starEach es X.env:=by rfl)(hpl:(backTo cpos (starEach es X.env)).any (·.1)=false:=by rfl):PS3 ca X (.Raise (some (.Call (.Name x np) (e::es) [] cpos)) none pos) (YQ c mr):=by
 intro pn Φ pins s σ H En I ⟨σ3,g,μ,R,p⟩
 obtain⟨bm,N,nm,q,bs,hdct,sn,sub,ab,col,dd,k0,k1,k2,k3,k5,mN,hC,hN,hni,T⟩:=(Qhg (h:=X.base) I.ok.mod.kin h.at' h.ex).obj
 refine wpAny_Raise_call_subT (C:=ca c) (nm:=nm) (q:=q) (N:=N) (bs:=bs) (bm:=bm) (hdct:=hdct) (sn:=sn) (sub:=sub) (ab:=ab) (col:=col) (dd:=dd) (k0:=k0) (k1:=k1) (k2:=k2) (k3:=k3) (k5:=k5)
  U8 (mN:=mN) (T.hasType U8.hasBase) hh ?_ hni (YC I hg h.at' ⟨rfl,?_⟩ hdb)
 ·show(backTo cpos (starEach (e::es) X.env)).any (·.1)=false
  rw[he]
  show(false || (backTo cpos (starEach es X.env)).any (·.1))=false
  rw[hpl];rfl
 ·have z:upA X.K ca Φ mr σ H λvs H1=>vs.length<=sizeLine/\Φ (c,none) σ H1:=by
   refine⟨σ3,g,μ,R,?_⟩
   unfold YQ at p
   cases hm:mr σ3 g with
   |raise _ _=>rw[hm]at p;exact RaP.stmt R p
   |stuck=>rw[hm]at p;exact p
   |ok ds g1 =>
    rw[hm]at p
    dsimp only at p
    intro vs H1 μ1 e1 r1 q1
    by_cases hz:ds.length<=SZ
    ·rw[Uf hz]at p
     exact⟨q1.sz hz,p σ H1 μ1 e1 (R.go e1 r1)⟩
    ·rw[Uh hz]at p;exact p.elim
  have az:=ha pn Φ cpos pins s σ H _ I z
  have he':starEach (e::es) (xat X ca pn Φ).env=(false,eval e X.env)::starEach es X.env:=he
  show wpAny _ _ (evalArgs (.ref (ca c)) true (backTo cpos (starEach (e::es) X.env)) []) _ _ s
  rw[he']at az
  rw[he]
  refine T4 (UM az (λus s2 ⟨vs,H1,I1,r1,hz,hΦ⟩=>⟨rfl,by rw[<-r1.length];exact hz,I1.bk _ _ hC,hN.keeps I1.bk,T.keeps I1.bk,λh' ea hm=>?_⟩) λ_ _ y=>y)
  have I2:Inv (xon X pn) [] σ H1 s2:=(Qed I1).pins_of λp hp=>absurd hp (by simp)
  have I3:Inv (xon X pn) [] σ H1 {s2 with heap:=h'}:=I2.kept (t':=s2.toks) hm.keeps
  have hn:H1 ea=none:=by
   cases hq:H1 ea with
   |none=>rfl
   |some o =>
    obtain⟨o',ho'⟩:=Inv.there' I2 hq
    rw[hm.new]at ho';cases ho'
  obtain⟨t,ht,_⟩:=hm.there
  exact⟨ea,(c,none),σ,H1,rfl,I3,⟨Qaq I2 hm.new hn,True.intro,_,_,ht,⟨rfl,True.intro⟩,rfl,by simp,.inl rfl⟩,hΦ⟩
end
structure CatX(K:Frag)(ca:Nat->Addr)(C:Addr)(cs no:List Nat):Prop where
 ci:(clsIn K C).isSome=true
 ty:typeIn K (.ref C)=some (.type "type")
 sb:subIn K (.ref C) (.type "BaseException")=some true
 yes:∀c∈cs,subIn K (.ref (ca c)) (.ref C)=some true
 no':∀c∈no,subIn K (.ref (ca c)) (.ref C)=some false
section
variable{prog:Program}{w:World}{A:Around}{E:Value->Shared->Prop}{s:Shared}{K:Frag}{ca:Nat->Addr}{C D e:Addr}{oe:Obj}{cs no:List Nat}{b:Bool}
theorem QeA{Q:Bool->Shared->Prop}(X:K.In s.heap)(F:CatX K ca C cs no)(hx:s.heap.get? e=some oe)(hc:oe.cls=.ref D)(hs:subIn K (.ref D) (.ref C)=some b)(h:Q b s):wpAny (model prog w) A (excMatches (.ref e) (.ref C)) Q E s:=by
 obtain⟨hh,g,d,t,os⟩:=s
 have L0:=looks_typeIn (M:=model prog w) X F.ty
 have L1:=RT (M:=model prog w) X F.sb
 have L2:=RT (M:=model prog w) X hs
 have L3:Looks (model prog w) hh (isType (.ref C)) true:=by
  obtain⟨cd,hc⟩:=Te.mp F.ci
  unfold clsIn at hc
  split at hc
  ·rename_i c' d' cd' sl' ho
   intro A' Q' E' s' k q
   unfold isType loadHead
   exact Ua (Wa (k _ _ (X _ _ ho)) (Uk q))
  ·cases hc
 have f:=tc_notTuple
 unfold excMatches isInstance
 refine Ua (Ua (L0.at (RM f ?_)))
 simp only[Rm,WK]
 refine Ua (Uk ?_)
 simp only[RO,Wb]
 unfold isExcClass
 refine Ua (Ua (Ua (Ua (L3.at ?_))))
 rw[Uf rfl]
 refine L1.at ?_
 simp only[Bool.not_true,Rm,WK]
 refine Uk (Uk ?_)
 have L4:Looks (model prog w) hh (typeOf (.ref e)) (.ref D):=hc ▸ (Looks.ld hx).andThen .now
 refine Ua (L4.at (Ua (Ua (Ua (L2.at ?_)))))
 cases b with
 |true=>rw[Uf rfl];exact Uk (Uk (Uk h))
 |false=>rw[Uh Ud];exact Uk (Uk (Uk h))
end
noncomputable abbrev xmk(X:Cx)(v:Value):Cx:={X with A:=X.A.mark (some v),calm:=false}
section
variable{X:Cx}{ca:Nat->Addr}{pins:List (Addr×Obj)}{σ:L2.St}{H:Hp}{s:Shared}{a:Addr}{x:Xc}
theorem Qgw(v:Value)(I:Inv X pins σ H s):Inv (xmk X v) pins σ H s :=
 ⟨⟨I.ok.mod,I.ok.kind,I.ok.glob,I.ok.blt,I.ok.above,I.ok.inj,I.ok.has,I.ok.cab,(λz=>by cases z),I.ok.frames,I.ok.stk,I.ok.exf,I.ok.bs,I.ok.bsz,I.ok.noex,I.ok.exfs,I.ok.funs,I.ok.frf⟩,I.os,I.bare,I.base,I.loc,I.cell,I.free,I.freeC,I.pin,I.hok,I.len⟩
theorem QcT{v:Value}(h:X.calm=true->X.A.handled=none)(I:Inv (xmk X v) pins σ H s):Inv X pins σ H s :=
 ⟨⟨I.ok.mod,I.ok.kind,I.ok.glob,I.ok.blt,I.ok.above,I.ok.inj,I.ok.has,I.ok.cab,h,I.ok.frames,I.ok.stk,I.ok.exf,I.ok.bs,I.ok.bsz,I.ok.noex,I.ok.exfs,I.ok.funs,I.ok.frf⟩,I.os,I.bare,I.base,I.loc,I.cell,I.free,I.freeC,I.pin,I.hok,I.len⟩
theorem Qas{o:HO}(I:Inv X pins σ H s)(ha:FpW X pins H a)(new:ObjOk X.prog X.w (upd H a o) s.heap a o):Inv X pins σ (upd H a o) s:=by
 have ne:∀b u,H b=some u->b≠a:=λb u e=>Qx e ha.1
 refine Qbr (h':=s.heap) (H':=upd H a o) (g':=s.gens) (t':=s.toks) (d':=s.drawn) (ch:=[a]) I (λb hb=>?_) (λb o _ _ _ e _=>e) (λb o _ _ _ e _=>⟨o.slots,e⟩) (λb o hb e n=>?_) (λb o _ e=>⟨o,e⟩)
  (λb xs e=>by rw[Qh (ne b _ e)];exact e) (λb o u e=>by rw[Qh (ne b _ e)];exact e) (λb ps e=>⟨#[],by rw[Qh (ne b _ e),e];simp⟩) (λ_ h=>h) (λb u e=>?_) I.bare
 ·rw[Ug.mp hb]
  exact⟨ha.2.2.2.1,ha.2.1,ha.2.2.2.2.1,ha.2.2.2.2.2⟩
 ·rw[Qh (λz=>hb (by simp[z]))];exact n
 ·by_cases hb:b=a
  ·subst hb;rw[Ql]at e;cases e;exact new
  ·rw[Qh hb]at e
   exact(I.hok b u e).stay (λ_ _ _ q=>q) (λc q=>by rw[Qh (ne c _ q)];exact q) λc xs q=>by rw[Qh (ne c _ q)];exact q
theorem QeB{M:Model}{A:Around}{E:Value->Shared->Prop}{i:Nat}{n:Str}{pos:Pos}{Q:Unit->Shared->Prop}(I:Inv X pins σ H s)(hN:X.N.Nodup)(hi:X.N[i]?=some n)(hl:X.env.kindOf n=some .local)(h:∀s',Inv X pins (σ.set i none) H s'->Q () s'):wpAny M A (do bindName X.env n .none;unbindBehindTheSuite X.env n pos) Q E s:=by
 obtain⟨m,hn,hlk⟩:=id I.loc
 have hcls:(X.env.scope.kind == .class || (X.env.scope.kind == .module && X.env.locals != X.env.globals))=false:=by rw[I.ok.kind];rfl
 refine wpAny_nameGoes_keeps hl hn hcls λh' v hn' hs=>h _ ?_
 have old:∀b o,b≠X.env.locals->s.heap.get? b=some o->h'.get? b=some o:=λb o hb e=>(hs.2 b hb).trans e
 have neL:∀b o,X.s₀.heap.get? b=some o->b≠X.env.locals:=λb o e=>UK (Uv (Um e) I.ok.above)
 obtain⟨oL,_,_,hoL,_⟩:=id hn
 refine⟨I.ok,I.os,I.bare,⟨λb o e n hb hx=>old b o (neL b o e) (I.base.keep b o e n hb hx),λb o e n hb hx=>?_,I.base.free,λb o e hx=>?_,I.base.tups,I.base.frzs,I.base.tbls⟩,⟨_,hn',λj y u e1 e2 e3=>?_⟩,λy c e=>?_,I.free,I.freeC,λp hp=>?_,λb o e=>?_,by simpa using I.len⟩
 ·obtain⟨sl,z⟩:=I.base.slot b o e n hb hx
  exact⟨sl,old b _ (neL b o e) z⟩
 ·obtain⟨o',z⟩:=I.base.there b o e hx
  exact⟨o',old b _ (neL b o e) z⟩
 ·have hj:j≠i:=λz=>by
   subst z
   rw[List.getElem?_set]at e2
   split at e2
   ·split at e2 <;> simp at e2
   ·rename_i q;exact q rfl
  rw[Uy (Ne.symm hj)]at e2
  obtain⟨u',r',q⟩:=hlk j y u e1 e2 e3
  refine⟨u',r',?_⟩
  rcases q with⟨k,e⟩|⟨k,c,e,z⟩
  ·refine .inl ⟨k,?_⟩
   have:y≠n:=λe=>hj (Qaz hN e1 (e ▸ hi))
   simp[this,e]
  ·exact .inr ⟨k,c,e,z.sameBut hs (I.cne y c e)⟩
 ·obtain⟨w',z⟩:=I.cell y c e
  exact⟨w',z.sameBut hs (I.cne y c e)⟩
 ·obtain⟨e,n,ne,nf,d⟩:=I.pin p hp
  exact⟨old p.1 _ ne e,n,ne,nf,d⟩
 ·refine(I.hok b o e).stay (λc w' hc q=>old c _ ?_ q) (λ_ q=>q) λ_ _ q=>q
  rintro rfl
  rcases hc with z|z
  ·rw[<-z,I.free]at e;cases e
  ·rw[I.free]at z;cases z
end
section
variable{X:Cx}{ca:Nat->Addr}{body suite:List Stmt}{b0:Stmt}{mb mc:MS}{np hpos pos:Pos}{C:Addr}{cs no:List Nat}{T n:Str}
theorem QiO{Y:Cx}{pn pins:List (Addr×Obj)}{E E':Value->Shared->Prop}{σ:L2.St}{H:Hp}{s:Shared}(I:Inv {Y with pn:=pn,xe:=E} pins σ H s):Inv {Y with pn:=pn++pins,xe:=E'} [] σ H s :=
 ⟨⟨I.ok.mod,I.ok.kind,I.ok.glob,I.ok.blt,I.ok.above,I.ok.inj,I.ok.has,I.ok.cab,I.ok.hd,I.ok.frames,I.ok.stk,I.ok.exf,I.ok.bs,I.ok.bsz,I.ok.noex,I.ok.exfs,I.ok.funs,I.ok.frf⟩,I.os,I.bare,I.base,I.loc,I.cell,I.free,I.freeC,λp hp=>I.pin p (by rw[U6]at hp;exact hp),I.hok,I.len⟩
theorem JR{Y:Cx}{pn pins:List (Addr×Obj)}{E E':Value->Shared->Prop}{σ:L2.St}{H:Hp}{s:Shared}(I:Inv {Y with pn:=pn++pins,xe:=E} [] σ H s):Inv {Y with pn:=pn,xe:=E'} pins σ H s :=
 ⟨⟨I.ok.mod,I.ok.kind,I.ok.glob,I.ok.blt,I.ok.above,I.ok.inj,I.ok.has,I.ok.cab,I.ok.hd,I.ok.frames,I.ok.stk,I.ok.exf,I.ok.bs,I.ok.bsz,I.ok.noex,I.ok.exfs,I.ok.funs,I.ok.frf⟩,I.os,I.bare,I.base,I.loc,I.cell,I.free,I.freeC,λp hp=>I.pin p (by rw[U6];exact hp),I.hok,I.len⟩
theorem QeC{pn:List (Addr×Obj)}{σ:L2.St}{H:Hp}{s:Shared}{a:Addr}{x:Xc}{oe:Obj}{R:Result->Shared->Prop}{b:Bool}(I:Inv (xon X pn) [] σ H s)(hT:X.mg T=some (.ref C))(F:CatX X.K ca C cs no)(he:s.heap.get? a=some oe)(ho:XOb ca H x oe)(hs:subIn X.K (.ref (ca x.1)) (.ref C)=some b)(hg:Gl X T)(hdb:(T == ("__debug__" : Str))=false)(h:R (.ok (if b then .brk else .next)) s):
  codeAny (model X.prog X.w) (X.A.mark (some (.ref a))) (.handlers (.ref a) [.ExceptHandler (some (.Name T np)) none [] hpos] X.env) R s :=
 codeAny_handlers_test (YC (X:=xmk (xon X pn) (.ref a)) (Qgw _ I) hg hT (QeA I.kIn F he ho.1 hs h) hdb)
theorem Qhh{pn pins:List (Addr×Obj)}{Φ:XS}{σ:L2.St}{H:Hp}{s:Shared}{a:Addr}{x:Xc}{Q:Flow->Shared->Prop}(hf:X.env.frame=some X.env.locals)(I:Inv (xon X (pn++pins)) [] σ H s)(fl:FlT (xon X (pn++pins)) ca a x H s.heap)(h:Φ x σ H):
  wpAny (model X.prog X.w) X.A (handleBy (.ref a) X.env []) Q (xat X ca pn Φ).xe s:=by
 refine wpAny_handleBy_nil ?_
 unfold PySem.passOn
 obtain⟨fp,ln,oe,vs,T,oT,ts,he,hc,hd,hv,hTa,fT,hT,hdT,hs3⟩:=id fl
 refine Ua (US he hd hv ?_)
 rw[Uh (show ¬((Value.ref T == Value.none)=true) from by simp)]
 refine Ua (Yi (fo:=X.env.frame) I fl λh2 T oT ts oe vs I2 a1 a2 a3 a4 a5 a6 a7 a8 a9 a10=>wpAny_throw ?_)
 rw[hf]at a10
 have dn:∀{b:Addr},FpW (xon X (pn++pins)) [] H b->FpW (xon X pn) [] H b:=λz=>⟨z.1,z.2.1,z.2.2.1,z.2.2.2.1,z.2.2.2.2.1,λp hp=>z.2.2.2.2.2 p (by rw[U6]at hp ⊢;exact UY _ hp)⟩
 exact⟨a,x,σ,H,rfl,(JR (Y:=X) I2).pins_of λp hp=>absurd hp (by simp),FlN.fl ⟨dn fp,ln,oe,vs,T,oT,ts,a1,a2,a3,a4,a5,dn a6,a7,a8,a10⟩,h⟩
theorem QfK{hs:List MH}{h0:ExceptHandler}{hr:List ExceptHandler}(hb:PSs3 ca X body mb)(hk:X.stack=X.env::X.outer)(hf:X.env.frame=some X.env.locals)(hh:∀(pn pins:List (Addr×Obj)) (Φ:XS) (En:Ends) (σ:L2.St) (H:Hp) (s:Shared) (a:Addr) (x:Xc) (σ3:S3) (g:G) (μ:List Addr),(X.calm=true->X.A.handled=none)->Inv (xon X (pn++pins)) [] σ H s->FlT (xon X (pn++pins)) ca a x H s.heap->Rep X.K ca μ σ3 g σ H->PostS X.K ca Φ En H μ (runH hs x σ3 g) ->
   wpAny (model X.prog X.w) X.A (handleBy (.ref a) X.env (h0::hr)) (SP (xat X ca pn Φ) pins En) (xat X ca pn Φ).xe s):PS3 ca X (.Try body (h0::hr) [] [] pos) (mTry mb hs):=by
 intro pn Φ pins s σ H En I ⟨σ3,g,μ,R,p⟩
 refine wpAny_Try_except ?_
 have p1:PostS X.K ca (λx σ' H'=>∃σ4 g4 μ4,Rep X.K ca μ4 σ4 g4 σ' H'/\PostS X.K ca Φ En H' μ4 (runH hs x σ4 g4)) En H μ (mb σ3 g):=by
  unfold mTry at p
  cases hm:mb σ3 g with
  |nx _ _=>rw[hm]at p;exact p
  |rt _ _=>rw[hm]at p;exact p
  |bk _ _=>rw[hm]at p;exact p
  |ct _ _=>rw[hm]at p;exact p
  |raise x σ' g'=>rw[hm]at p;exact λσ4 H' μ' e R'=>⟨σ',g',μ',R',PostS.go e p⟩
  |stuck=>rw[hm]at p;exact p
 refine UM (hb (pn++pins) _ [] s σ H En (QiO (Y:=X) I) ⟨σ3,g,μ,R,p1⟩) (λf s1 h1=>?_) λv s1 h1=>?_
 ·cases f with
  |next=>obtain⟨σ',H',J,q⟩:=h1;exact QdM (X:=xat X ca pn Φ) pins s1 σ' H' En (JR (Y:=X) J) q
  |brk=>obtain⟨σ',H',J,q⟩:=h1;exact⟨σ',H',JR (Y:=X) J,q⟩
  |cont=>obtain⟨σ',H',J,q⟩:=h1;exact⟨σ',H',JR (Y:=X) J,q⟩
  |ret u=>obtain⟨v,σ',H',J,r,q⟩:=h1;exact⟨v,σ',H',JR (Y:=X) J,r,q⟩
 ·obtain⟨a,x,σ',H',rfl,I1,fl,σ4,g4,μ4,R4,p4⟩:=h1
  refine Qb7 (X:=xon X (pn++pins)) I1 hk hf fl λh2 I2 f2=>?_
  refine Yi (X:=xon X (pn++pins)) (fo:=none) I2 f2.t λh3 T oT ts oe vs I3 a1 a2 a3 a4 a5 a6 a7 a8 a9 a10=>?_
  exact hh pn pins Φ En σ' H' _ a x σ4 g4 μ4 I.ok.hd I3 ⟨f2.1,f2.2.1,oe,vs,T,oT,ts,a1,a2,a3,a4,a5,a6,a7,a8,a9⟩ R4 p4
theorem Qhi(i:Nat)(hN:X.N.Nodup)(hT:X.mg T=some (.ref C)/\CatX X.K ca C cs no)(hb:PSs3 ca X body mb)(hc:∀a,PSs3 ca (xmk X (.ref a)) (b0::suite) mc)(hi:X.N[i]?=some n:=by rfl)(hl:X.env.kindOf n=some .local:=by rfl)(hg:Gl X T:=by rfl)(hdb:(T == ("__debug__" : Str))=false:=by decide)(hk:X.stack=X.env::X.outer:=by rfl)(hf:X.env.frame=some X.env.locals:=by rfl):
  PS3 ca X (.Try body [.ExceptHandler (some (.Name T np)) (some n) (b0::suite) hpos] [] [] pos) (mTry mb [⟨cs,no,some i,mc⟩]):=by
 refine QfK hb hk hf λpn pins Φ En σ H s a x σ3 g μ hcalm I fl R p=>?_
 obtain⟨fp,ln,oe,vs,Tb,oT,ts,he,hox,hd,hv,hTa,fT,hTT,hdT,hs3⟩:=id fl
 unfold runH at p
 by_cases hx:x.1∈cs
 ·rw[Uf hx]at p
  dsimp only at p
  refine wpAny_handleBy_cons (QeC I hT.1 hT.2 he hox (hT.2.yes _ hx) hg hdb ?_) (by intro q;cases q)
  refine codeAny_handlers_suite_as ?_
  refine Yi (fo:=none) I fl λh2 T2 oT2 ts2 oe2 vs2 I2 b1 b2 b3 b4 b5 b6 b7 b8 b9 b10=>?_
  have I3:Inv (xon X (pn++pins)) [] σ (upd H a (XO ca a x oe2.dict)) {s with heap:=h2}:=Qas I2 fp ⟨⟨oe2,vs2,b1,⟨b2.1,rfl⟩,b3⟩,⟨oe2,b1⟩,λh3 h4 ⟨o,ws,c1,c2,c3⟩ k=>⟨o,ws,k o c1,c2,c3⟩⟩
  have ex:Ext X.K μ H (μ++[a]) (upd H a (XO ca a x oe2.dict)):=QA fp.1
  have G3:GRep X.K ca (μ++[a]) (upd H a (XO ca a x oe2.dict)) (g++[.exc x]):=R.g.push fp.1 ⟨_,Ql,b2.2.mono ex.xd⟩
  have ea:(μ++[a])[g.length]?=some a:=by rw[<-R.g.len];simp
  refine Js (X:=xmk (xon X (pn++pins)) (.ref a)) (Qgw _ I3) hN hi (.inl hl) (v:=.ref a) rfl (λs4 I4=>?_) (.inr hl)
  have R4:Rep X.K ca (μ++[a]) (σ3.set i (some (.ref g.length))) (g++[.exc x]) (σ.set i (some (.ref a))) (upd H a (XO ca a x oe2.dict)):=(R.go ex G3).set (.ref ea) i
  have hcc:=hc a (pn++pins) F0 [] s4 (σ.set i (some (.ref a))) (upd H a (XO ca a x oe2.dict)) {nx:=λσ' H'=>En.nx (σ'.set i none) H',rt:=En.rt} (Inv.wish I4 _) ⟨_,_,_,R4,by
   cases hm:mc (σ3.set i (some (.ref g.length))) (g++[.exc x]) with
   |nx σ5 g5 =>
    rw[hm]at p
    intro σ' H' μ' e' R'
    refine p (σ'.set i none) H' μ' (ex.trans e') ⟨R'.g,by rw[UR,UR,R'.len],λj d hj=>?_⟩
    have hji:j≠i:=λz=>by
     subst z
     rw[List.getElem?_set]at hj
     split at hj
     ·split at hj <;> simp at hj
     ·rename_i q;exact q rfl
    rw[Uy (Ne.symm hji)]at hj ⊢
    exact R'.st j d hj
   |rt d g5=>rw[hm]at p;exact λv H' μ' e'=>p v H' μ' (ex.trans e')
   |bk _ _=>rw[hm]at p;exact p.elim
   |ct _ _=>rw[hm]at p;exact p.elim
   |raise _ _ _=>rw[hm]at p;exact p.elim
   |stuck=>rw[hm]at p;exact p.elim⟩
  refine UM (noX hcc) (λf s5 h5=>?_) λ_ _ z=>z.elim
  cases f with
  |next =>
   obtain⟨σ',H',J,q⟩:=h5
   have J':Inv (xon X (pn++pins)) [] σ' H' s5:=QcT (v:=.ref a) hcalm (Inv.wish J _)
   exact QeB (X:=xon X (pn++pins)) J' hN hi hl λs6 J6=>⟨_,H',JR (Y:=X) J6,q⟩
  |ret u =>
   obtain⟨v,σ',H',J,r,q⟩:=h5
   have J':Inv (xon X (pn++pins)) [] σ' H' s5:=QcT (v:=.ref a) hcalm (Inv.wish J _)
   exact QeB (X:=xon X (pn++pins)) J' hN hi hl λs6 J6=>⟨v,_,H',JR (Y:=X) J6,r,q⟩
  |brk=>obtain⟨_,_,_,q⟩:=h5;exact q.elim
  |cont=>obtain⟨_,_,_,q⟩:=h5;exact q.elim
 ·rw[Uh hx]at p
  by_cases hn:x.1∈no
  ·rw[Uf hn]at p
   refine wpAny_handleBy_cons (QeC I hT.1 hT.2 he hox (hT.2.no' _ hn) hg hdb ?_) (by intro q;cases q)
   exact Qhh hf I fl (p σ H μ .refl R)
  ·rw[Uh hn]at p;exact p.elim
end
noncomputable def bchk(sc scope:Scope)(N Nb:List Str)(no:Nat)(cap:List Nat):Bool :=
 decide (scope.kind=.function) && scope.names.all (λy=>decide (y.2≠.cell)) && scope.names.all (λy=>decide (y.2≠.local) || decide (scope.names.lookup y.1=some .local)) &&
 scope.names.all (λy=>decide (y.2≠.free) || decide (sc.names.lookup y.1=some .cell) || decide (sc.names.lookup y.1=some .free)) && decide (Nb.length=no+cap.length) &&
 (List.range cap.length).all λj=>match cap[j]?,Nb[no+j]? with
  |some i,some x=>decide (N[i]?=some x) && decide (scope.names.lookup x=some .free) && (decide (sc.names.lookup x=some .cell) || decide (sc.names.lookup x=some .free))
  |_,_=>false
theorem QY{X:Cx}{scope sc:Scope}{N Nb:List Str}{no:Nat}{cap:List Nat}(hsc:X.env.scope=sc)(hN:X.N=N)(h:bchk sc scope N Nb no cap=true):BScope X scope Nb no cap:=by
 subst hsc hN
 unfold bchk at h
 simp only[UC,TB]at h
 obtain⟨⟨⟨⟨⟨h1,h2⟩,h3⟩,h4⟩,h5⟩,h6⟩:=h
 rw[Ux]at h2 h3 h4 h6
 refine⟨h1,λy hy=>U5 (h2 y hy),λy hy e=>?_,λy hy e=>?_,h5,λj i hj=>?_⟩
 ·rcases Rb.mp (h3 y hy) with z|z
  ·exact absurd e (U5 z)
  ·exact U5 z
 ·rcases Rb.mp (h4 y hy) with z|z
  ·rcases Rb.mp z with z|z
   ·exact absurd e (U5 z)
   ·exact .inl (U5 z)
  ·exact .inr (U5 z)
 ·have hl:j<cap.length:=(Ui.mp hj).1
  have z:=h6 j (Ry.mpr hl)
  rw[hj]at z
  cases hx:Nb[no+j]? with
  |none=>rw[hx]at z;cases z
  |some x =>
   rw[hx]at z
   simp only[UC,Bool.or_eq_true,TB]at z
   obtain⟨⟨z1,z2⟩,z3⟩:=z
   refine⟨x,rfl,z1,z2,.inr z3,λq=>?_⟩
   have q:X.env.scope.names.lookup x=some .local:=q
   rcases z3 with z|z
   ·rw[z]at q;cases q
   ·rw[z]at q;cases q
noncomputable def exkB(K:Frag)(C:Addr):Bool :=
 (findIn K (.ref C) "__getattribute__" == some (some (.builtin "BaseException.__getattribute__"))) && (findIn K (.ref C) "__getattr__" == some none) && (findIn K (.ref C) "__class__" == some (some (.builtin "object.__class__"))) &&
 (specialIn K (.builtin "object.__class__") "__get__" == some (some (.builtin "getset_descriptor.__get__"))) && (takesIn K (.builtin "object.__class__") == some true) && (mroIn K C (.type "object") == some true) &&
 (subIn K (.ref C) (.type "BaseException") == some true) && (clsIn K C).isSome
theorem Qgx{K:Frag}{C:Addr}(h:exkB K C=true):ExK K C:=by
 unfold exkB at h
 simp only[UC,UT]at h
 obtain⟨⟨⟨⟨⟨⟨⟨h1,h2⟩,h3⟩,h4⟩,h5⟩,h6⟩,h7⟩,h8⟩:=h
 exact⟨h1,h2,h3,h4,h5,h6,h7,h8⟩
noncomputable def isxB(K:Frag)(ca:Nat->Addr)(T:Value)(all cs:List Nat):Bool:=all.all (λc=>exkB K (ca c) && (kitOne K (.ref (ca c)) T == some (decide (c∈cs)))) && (kitOne K (.type "NoneType") T == some false)
theorem Yl{K:Frag}{ca:Nat->Addr}{T:Value}{all cs:List Nat}(h:isxB K ca T all cs=true):IsX K ca T all cs:=by
 unfold isxB at h
 rw[UC,Ux]at h
 exact⟨λc hc=>Qgx (T7.mp (h.1 c hc)).1,λc hc=>UT.mp (T7.mp (h.1 c hc)).2,UT.mp h.2⟩
noncomputable def catB(K:Frag)(ca:Nat->Addr)(C:Addr)(cs no:List Nat):Bool:=(clsIn K C).isSome && (typeIn K (.ref C) == some (.type "type")) && (subIn K (.ref C) (.type "BaseException") == some true) &&
 cs.all (λc=>subIn K (.ref (ca c)) (.ref C) == some true) && no.all λc=>subIn K (.ref (ca c)) (.ref C) == some false
theorem QiP{K:Frag}{ca:Nat->Addr}{C:Addr}{cs no:List Nat}(h:catB K ca C cs no=true):CatX K ca C cs no:=by
 unfold catB at h
 simp only[UC,UT,Ux]at h
 obtain⟨⟨⟨⟨h1,h2⟩,h3⟩,h4⟩,h5⟩:=h
 exact⟨h1,h2,h3,h4,h5⟩
noncomputable def clsB(K:Frag)(C:Addr):Bool:=plainGet K C Str.empty && hasDictIn K C && plainOver K C && (findIn K (.ref C) "__setattr__" == some (some (.builtin "object.__setattr__")))
theorem Qgy{K:Frag}{C:Addr}(h:clsB K C=true):Cls K C:=by
 unfold clsB at h
 simp only[UC,UT]at h
 obtain⟨⟨⟨h1,h2⟩,h3⟩,h4⟩:=h
 exact⟨h1,h2,h3,h4⟩
noncomputable def fldB(K:Frag)(ca:Nat->Addr)(cs:List Nat)(f:Str):Bool:=cs.all λc=>clsB K (ca c) && (findIn K (.ref (ca c)) f == some none)
theorem QiQ{K:Frag}{ca:Nat->Addr}{cs:List Nat}{f:Str}(h:fldB K ca cs f=true):FldOk K ca cs f:=by
 unfold fldB at h
 rw[Ux]at h
 exact⟨λc hc=>Qgy (T7.mp (h c hc)).1,λc hc=>UT.mp (T7.mp (h c hc)).2⟩
section
variable{X:Cx}{ca:Nat->Addr}{pos:Pos}{x:Str}
theorem Qat{t:Str}(h:∃k,X.mg x=some (.str t k))(hg:Gl X x:=by rfl)(hd:(x == ("__debug__" : Str))=false:=by decide):PE3 ca X (.Name x pos) (mLit (.str t)):=by
 obtain⟨k,h⟩:=h
 exact Qgr h (v:=.str t) ⟨k,rfl⟩ (λ_ _ _=>.str t) hg hd
theorem QiR{i:Int}(h:∃k,X.mg x=some (.int i k))(hg:Gl X x:=by rfl)(hd:(x == ("__debug__" : Str))=false:=by decide):PE3 ca X (.Name x pos) (mLit (.int i)):=by
 obtain⟨k,h⟩:=h
 exact Qgr h (v:=.int i) ⟨k,rfl⟩ (λ_ _ _=>.int i) hg hd
end
theorem Qgz:bootBuiltins "int" = some (.type Ty.int.name):=boot_int
theorem QeD:bootBuiltins "bool" = some (.type Ty.bool.name):=by decide +kernel
theorem QgA:bootBuiltins "str" = some (.type Ty.str.name):=by decide +kernel
theorem Jw:bootBuiltins "tuple" = some (.type Ty.tuple.name):=boot_tuple
theorem Qcc:bootBuiltins "list" = some (.type Ty.list.name):=boot_list
theorem QeE:bootBuiltins "dict" = some (.type Ty.dict.name):=by decide +kernel
theorem QaR:bootBuiltins "ValueError" = some (.type "ValueError"):=by decide +kernel
section
variable{P:Program}{w:World}{K:Frag}{mg:Str->Option Value}{base:Heap}{ca:Nat->Addr}
theorem Qhj{f:Addr}{fd:FuncData}{ps:List Str}{k n:Nat}(hn:ps.length=n):FnOk P w K mg base (CXW P w ca) k f fd ps (spM K ca n λ_ _=>.stuck):=by
 subst hn
 exact⟨λvs H Q E q=>q.1,λA outer s H args us vs Q E _ _ _ _ h=>by obtain⟨_,_,_,_,_,_,z⟩:=h;exact z.elim⟩
theorem QiS{F:MF}{H:Hp}{a:Addr}{ns:List Int}(hO:Only H)(hS:SqL K H a (ns.map V.int))(h:∃g',F [.fl (ns.map D.int)] []=.ok (.bl true) g'):spM K ca 1 F [.ref a] H (λv _=>v=.bl true) λ_ _ _=>False:=by
 obtain⟨g',h⟩:=h
 have hF:SqF K H a (ns.map V.int):=by
  rcases hS with(h|⟨o,h⟩)|h
  ·rcases hO a with z|⟨o,xs,z⟩
   ·rw[h]at z;cases z
   ·rw[h]at z;cases z
  ·exact .inl ⟨o,h⟩
  ·exact .inr (.inr h)
 refine⟨rfl,[.fl (ns.map D.int)],[],[],⟨rfl,.nil,λn a o h=>by simp at h⟩,.cons (.fl hF (Dens.ints ns)) .nil,?_⟩
 rw[h]
 intro v H' μ' e r q
 cases q
 rfl
end
end L3
namespace L3
open PySem PySem.Spec
section
theorem len0{α:Type}{us:List α}(h:us.length=0):us=[]:=List.eq_nil_of_length_eq_zero h
theorem len1{α:Type}{us:List α}(h:us.length=1):∃a0,us=[a0]:=by
 cases us with
 |nil=>cases h
 |cons a r =>
  have e:=len0 (Nat.succ.inj h)
  subst e
  exact⟨a,rfl⟩
theorem len2{α:Type}{us:List α}(h:us.length=2):∃a0 a1,us=[a0,a1]:=by
 cases us with
 |nil=>cases h
 |cons a r =>
  obtain⟨b0,rfl⟩:=len1 (Nat.succ.inj h)
  exact⟨a,b0,rfl⟩
theorem len3{α:Type}{us:List α}(h:us.length=3):∃a0 a1 a2,us=[a0,a1,a2]:=by
 cases us with
 |nil=>cases h
 |cons a r =>
  obtain⟨b0,b1,rfl⟩:=len2 (Nat.succ.inj h)
  exact⟨a,b0,b1,rfl⟩
theorem len4{α:Type}{us:List α}(h:us.length=4):∃a0 a1 a2 a3,us=[a0,a1,a2,a3]:=by
 cases us with
 |nil=>cases h
 |cons a r =>
  obtain⟨b0,b1,b2,rfl⟩:=len3 (Nat.succ.inj h)
  exact⟨a,b0,b1,b2,rfl⟩
noncomputable def QeF:Expr->Bool
 |.Starred ..=>false
 |_=>true
theorem QeG{e:Expr}{es:List Expr}{env:Env}(h:QeF e=true):starEach (e::es) env=(false,eval e env)::starEach es env:=by
 cases e <;> first|rfl|exact absurd h (by simp[QeF])
variable{P:Program}{w:World}{K:Frag}{mg:Str->Option Value}{base:Heap}{ca:Nat->Addr}{X:L2.Cx}
theorem Qd{e:Expr}{es:List Expr}{me:ME}{mr:MA}(ha:PE3 ca X e me)(hr:PA3 ca X es mr)(hs:QeF e=true:=by rfl):PA3 ca X (e::es) (Qa me mr):=ZY ha hr (QeG hs)
noncomputable def QeH:Expr->Bool
 |.ListComp ..=>false
 |.SetComp ..=>false
 |.DictComp ..=>false
 |_=>true
theorem Qhk{e:Expr}{t:Option Expr}{l:Nat}{env:Env}(h:QeH e=true):swapsWith e t l env=pure false:=by
 cases e <;> first|rfl|exact absurd h (by simp[QeH])
theorem QU(i:Nat){x:Str}{pos pos':Pos}{e:Expr}{me:ME}(hN:X.N.Nodup)(he:PE3 ca X e me)(hi:X.N[i]?=some x:=by rfl)(hx:L2.Loc X.env.scope x:=by first|exact Or.inl rfl|exact Or.inr rfl)(hs:QeH e=true:=by rfl)(hf:X.fn x=true\/X.env.scope.names.lookup x=some .local:=by first|exact .inl rfl|exact .inr rfl):
  PS3 ca X (.Assign [.Name x pos'] e pos) (mAsg (gSet i) me):=QjE i hN he hi hx (Qhk hs) hf
end
end L3
namespace L3
open PySem PySem.Spec PyProof.Rows L2
section
variable{prog:Program}{w:World}{A:Around}{E:Value->Shared->Prop}{h:Heap}{g:Array GenState}{d:Drawn}{t:Nat}{os:OsState}
variable{nm q:Str}{C N:Addr}{bs bm bmB:List Value}{hdct:Bool}{sn:List Str}{sub:List Value}{ab:Bool}{col:Option Bool}{dd:Option Addr}{k0 k1 k2 k3 k5:Option Value}{B newId initId:String}
theorem Qdp(F:ExcBaseFacts B newId initId bmB)(T:OwnTail h bmB bm){mN:Str->Option Value}{rest:List Value}{fI:Addr}{oI:Obj}{Q:Fin->Shared->Prop}(hC:h.get? C=some (excClassObj nm q C N bs bm hdct sn sub ab col dd k0 k1 k2 k3 k5 newId))(hn:h.Ns N mN)(hi:mN "__init__" = some (.ref fI))(hfI:h.get? fI=some oI)(hfc:oI.cls=.type "function")(hq:∀h' e,Heap.MadeExcOf h h' e (.ref C) rest ->
   wpAny (model prog w) A (call (.ref fI) (.ref e::rest)) (λr s'=>r=.none/\Q (.done (.ret (.ref e))) s') E ⟨h',g,d,t,os⟩)(hrest:rest.length<=sizeLine):
  wpAny (model prog w) A (Builtin.«type.__call__» ⟨.ref C::rest,[]⟩) Q E ⟨h,g,d,t,os⟩:=by
 repeat (first|with_reducible refine T0 hC ?_|with_reducible refine wpAny_madeBy_exc hC ?_|wp_step)
 refine codeAny_call_builtin_code (Code.quiet_builtin _ F.quiet) (wpAny_check_new_subT F T hC ?_)
 refine codeAny_exc_new_subT F T hC ?_ hrest
 show wpAny _ _ _ _ _ _
 have k₁:∀b o,h.get? b=some o->((h.push {cls:=.type "tuple",data:=.seq rest.toArray}).push {cls:=.ref C,data:=.fields #[.ref h.objs.size,.none,.none,.none,.bool false,.none]}).get? b=some o :=
  λb o e=>Ub _ (Ub _ e)
 have hC₁:=k₁ _ _ hC
 have hfI₁:=k₁ _ _ hfI
 have hn₁:=hn.keeps k₁
 have hget:((h.push {cls:=.type "tuple",data:=.seq rest.toArray}).push
   {cls:=.ref C,data:=.fields #[.ref h.objs.size,.none,.none,.none,.bool false,.none]}).get? (h.objs.size+1)=some
   {cls:=.ref C,data:=.fields #[.ref h.objs.size,.none,.none,.none,.bool false,.none]}:=by heap_get
 have hcC:(Value.ref C::bm).contains (.ref C)=true:=by simp
 unfold isInstance
 repeat (first|with_reducible refine T0 hget ?_|(with_reducible refine wpAny_isSubtype_exc hC₁ ?_;rw[hcC])|wp_step)
 show wpAny _ _ (typeLookup (.ref C) _) _ _ _
 refine wpAny_typeLookup_tail hC₁ hn₁ (T.keeps k₁) F.mroIs F.init.lookup ?_
 rw[hi]
 refine U9 (Ua ?_)
 unfold bindSpecial
 refine Ua (wpAny_typeOf (T:="function") ⟨_,hfI₁,hfc⟩ ?_)
 rw[Uf (by decide)]
 refine Uk (Ua (UM (hq _ (h.objs.size+1) ⟨k₁,T3 (Nat.le_succ _),h.objs.size,hget,T3 (Ul _),?_⟩) (λr s' hr=>?_) λ_ _ x=>x))
 ·exact Ub _ (Heap.get?_push_at rfl rfl)
 ·obtain⟨rfl,hQ⟩:=hr
  wp_walk
  exact hQ
theorem QeI(F:ExcBaseFacts B newId initId bmB)(T:OwnTail h bmB bm){mN:Str->Option Value}{rest:List Value}{fI:Addr}{oI:Obj}{Q:Value->Shared->Prop}(hC:h.get? C=some (excClassObj nm q C N bs bm hdct sn sub ab col dd k0 k1 k2 k3 k5 newId))(hn:h.Ns N mN)(hi:mN "__init__" = some (.ref fI))(hfI:h.get? fI=some oI)(hfc:oI.cls=.type "function")(hq:∀h' e,Heap.MadeExcOf h h' e (.ref C) rest ->
   wpAny (model prog w) (A.under (.builtin "type.__call__" ⟨.ref C::rest,[]⟩)) (call (.ref fI) (.ref e::rest)) (λr s'=>r=.none/\Q (.ref e) s') E ⟨h',g,d,t,os⟩)(hrest:rest.length<=sizeLine):
  wpAny (model prog w) A (call (.ref C) rest) Q E ⟨h,g,d,t,os⟩:=by
 have f1:=tc_lookup
 have f2:=tc_bind (.ref C)
 have hT:(⟨h,g,d,t,os⟩:Shared).TypeIs (.ref C) "type":=⟨_,hC,rfl⟩
 refine Rt (codeAny_of_tree ?_)
 show wpAny _ _ (callAny (.ref C) _) _ _ _
 repeat (any_goals (first|assumption|with_reducible refine T0 hC ?_|wp_step))
 refine⟨rfl,?_⟩
 refine codeAny_call_builtin_at (Code.quiet_builtin _ (by decide +kernel)) entry_typeCall (wpAny_check_type_call_sub hC (Qdp (hrest:=hrest) F T hC hn hi hfI hfc λh' e hm=>?_))
 exact hq h' e hm
end
section
variable{M:Model}{A:Around}{E:Value->Shared->Prop}{env:Env}
variable{nm q:Str}{C N:Addr}{bs bm:List Value}{hdct:Bool}{sn:List Str}{sub:List Value}{ab:Bool}{col:Option Bool}{dd:Option Addr}{k0 k1 k2 k3 k5:Option Value}{newId:String}
theorem Qau{s:Shared}{x:Sem Value}{Q:Flow->Shared->Prop}(hbase:bm.contains (.type "BaseException")=true)(hh:A.handled=none)(h:wpAny M A x (λv s₁=>∃e oe,v=.ref e/\s₁.heap.get? C=some (excClassObj nm q C N bs bm hdct sn sub ab col dd k0 k1 k2 k3 k5 newId) /\
   s₁.heap.get? e=some oe/\oe.cls=.ref C/\(∃vs,oe.data=.fields vs/\vs[1]?=some .none)/\E (.ref e) s₁) E s):
  wpAny M A (raiseStmt env (some x) none) Q E s:=by
 have hcB:(Value.ref C::bm).contains (.type "BaseException")=true:=by rw[List.contains_cons,hbase,Bool.or_true]
 unfold raiseStmt
 refine Ua (UM h (λv s₁ h₁=>?_) λ_ _ x=>x)
 obtain⟨e,⟨oc,od,oda,osl⟩,rfl,hC,he,hcls,⟨vs,hd,hv⟩,hE⟩:=h₁
 dsimp only at hcls hd
 subst hcls hd
 obtain⟨hp,g,d,tk,os⟩:=s₁
 repeat (first|with_reducible refine T0 he ?_|with_reducible refine T0 hC ?_|(with_reducible refine wpAny_isSubtype_exc hC ?_;rw[hcB])|wp_step)
 rw[hv]
 refine Uk ?_
 rw[Uh (show ¬(Value.none != Value.none)=true from by decide)]
 exact Uk (wpAny_raiseNew_none hh hE)
end
section
variable{prog:Program}{w:World}{A:Around}{E:Value->Shared->Prop}{s:Shared}{env:Env}
variable{nm q:Str}{C N:Addr}{bs bm bmB:List Value}{hdct:Bool}{sn:List Str}{sub:List Value}{ab:Bool}{col:Option Bool}{dd:Option Addr}{k0 k1 k2 k3 k5:Option Value}{B newId initId:String}
theorem Qdq(F:ExcBaseFacts B newId initId bmB){mN:Str->Option Value}{x:Str}{np cpos pos:Pos}{args:List Expr}{fI:Addr}{oI:Obj}{Q:Flow->Shared->Prop}(hbase:bm.contains (.type "BaseException")=true)(hh:A.handled=none)(hplain:(backTo cpos (starEach args env)).any (·.1)=false)(hi:mN "__init__" = some (.ref fI))(hfc:oI.cls=.type "function")(h:wpAny (model prog w) A (eval (.Name x np) env) (λf s₁=>f=.ref C/\wpAny (model prog w) A (evalArgs (.ref C) true (backTo cpos (starEach args env)) [])
   (λa s₂=>a.kw=[]/\a.pos.length<=sizeLine/\s₂.heap.get? C=some (excClassObj nm q C N bs bm hdct sn sub ab col dd k0 k1 k2 k3 k5 newId)/\s₂.heap.Ns N mN/\OwnTail s₂.heap bmB bm/\s₂.heap.get? fI=some oI /\
    ∀h' e,Heap.MadeExcOf s₂.heap h' e (.ref C) a.pos->wpAny (model prog w) (A.under (.builtin "type.__call__" ⟨.ref C::a.pos,[]⟩)) (call (.ref fI) (.ref e::a.pos)) (λr s'=>r=.none /\
     s'.heap.get? C=some (excClassObj nm q C N bs bm hdct sn sub ab col dd k0 k1 k2 k3 k5 newId)/\(∃oe vs,s'.heap.get? e=some oe/\oe.cls=.ref C/\oe.data=.fields vs/\vs[1]?=some .none)/\E (.ref e) s') E {s₂ with heap:=h'}) E s₁) E s):
  wpAny (model prog w) A (exec (.Raise (some (.Call (.Name x np) args [] cpos)) none pos) env) Q E s:=by
 rw[arm_exec_Raise]
 first
  |refine Ua (TF (Qau (C:=C) (nm:=nm) (q:=q) (N:=N) (bs:=bs) (bm:=bm) (hdct:=hdct) (sn:=sn) (sub:=sub) (ab:=ab) (col:=col) (dd:=dd) (k0:=k0) (k1:=k1) (k2:=k2) (k3:=k3) (k5:=k5) (newId:=newId) hbase hh (Ua (UM (wpAny_Call_ofName (UM h (λf s₁ h₁=>?_) λ_ _ x=>x)) (λv s₃ h₃=>Ua (TF (Uk h₃))) λ_ _ x=>x))))
  | (simp only[evalOpt,Option.map];refine Ua (TF (Qau (C:=C) (nm:=nm) (q:=q) (N:=N) (bs:=bs) (bm:=bm) (hdct:=hdct) (sn:=sn) (sub:=sub) (ab:=ab) (col:=col) (dd:=dd) (k0:=k0) (k1:=k1) (k2:=k2) (k3:=k3) (k5:=k5) (newId:=newId) hbase hh (Ua (UM (wpAny_Call_ofName (UM h (λf s₁ h₁=>?_) λ_ _ x=>x)) (λv s₃ h₃=>Ua (TF (Uk h₃))) λ_ _ x=>x)))))
 obtain⟨rfl,h₁⟩:=h₁
 unfold callWith
 refine Ua (U9 (UM h₁ (λa s₂ h₂=>Ua (TF ?_)) λ_ _ x=>x))
 obtain⟨apos,akw⟩:=a
 obtain⟨hkw,hlen,hC,hn,T,hfI,h₂⟩:=h₂
 obtain rfl:akw=[]:=hkw
 obtain⟨hp,g,d,tk,os⟩:=s₂
 simp only[hplain]
 refine Ua (wpAny_keeperOf_exc hC ?_)
 refine Ua (QeI (hrest:=hlen) F T hC hn hi hfI hfc λh' e hm=>UM (h₂ h' e hm) (λr s' ⟨e1,e2,⟨oe,vs,e3,e4,e5,e5'⟩,e6⟩=>⟨e1,Ua (U9 (wpAny_point (Uk ?_)))⟩) λ_ _ x=>x)
 exact⟨e,oe,rfl,e2,e3,e4,⟨vs,e5,e5'⟩,e6⟩
end
structure ExL(K:Frag)(C T:Addr):Prop extends ExK K C where
 na:findIn K (.ref C) "line" = some none
 hd:hasDictIn K C=true
 sa:findIn K (.ref C) "__setattr__" = some (some (.builtin "object.__setattr__"))
 ml:(clsIn K C).map (·.mro)=some (.ref C::.ref T::bmV)
 rd:readsIn K T (.type "type")=true
 gi:findCls K (.ref T) (.type "type") "__init__" = some (.val (.builtin "ValueError.__init__"))
 sp:specialIn K (.ref T) "__getattribute__" = some (some (.builtin "type.__getattribute__"))
section
variable{prog:Program}{w:World}{A:Around}{E:Value->Shared->Prop}{s:Shared}{K:Frag}{C T x:Addr}{ox:Obj}{vs:Array Value}{v:Value}
open Builtin Builtin.ObjectAttr in
theorem Qhl{Q:Unit->Shared->Prop}(X:K.In s.heap)(F:ExL K C T)(hx:s.heap.get? x=some ox)(hc:ox.cls=.ref C)(hd:ox.dict=none)(hf:ox.data=.fields vs)(h:∀h' tk,h'.get? x=some {ox with dict:=some s.heap.objs.size}->h'.Ns1 s.heap.objs.size (λy=>if y = "line" then some v else none)->(∀b o,b≠x->s.heap.get? b=some o->h'.get? b=some o)->Q () {s with heap:=h',toks:=tk}):
  wpAny (model prog w) A (setAttr (.ref x) "line" v) Q E s:=by
 have J:PySem.W.InstAt s.heap x ox C none:=⟨hx,hc,by obtain⟨c,d,dt,sl⟩:=ox;obtain rfl:dt=_:=hf;rfl,by rw[hd];trivial⟩
 obtain⟨cd,hcd,hmro⟩:=Rv.mp F.ml
 obtain⟨cd',hcd',hhd⟩:=any_some F.hd
 obtain rfl:cd=cd':=Option.some.inj (hcd.symm.trans hcd')
 refine set_plain X J F.sa ?_
 have SF:=PySem.F.store_object
 have sub:Looks (model prog w) s.heap (isInstance (.ref x) (.type "object")) true:=J.type.andThen (looks_mroIn X F.mr)
 refine T6 SF.slot.plain SF.entry (@check_slot (model prog w) _ _ {s with toks:=s.toks+1} "object.__setattr__" "object" "__setattr__" (.ref x) [.str "line" s.toks,v] [] _ SF.kind SF.split sub (SF.args (.ref x) (.str "line" s.toks) v) ?_)
 have hm:Looks (model prog w) s.heap (mroOf (.ref C)) cd.mro:=(RS X hcd).andThen .now
 rw[osa_eq,refuse_eq]
 refine Ua (Ua (J.type.here (s:={s with toks:=s.toks+1}) (Ua (hm.here (s:={s with toks:=s.toks+1}) ?_))))
 rw[hmro,refuseLoop_ref,refuseLoop_ref,PySem.F.store_ValueError.passes]
 refine Uk (Ua (J.type.here (s:={s with toks:=s.toks+1}) (Ua ((Tf X F.na).here (s:={s with toks:=s.toks+1}) (Ua (Uk ?_))))))
 show wpAny _ _ (storeInOwnDict (.ref x) (.ref C) (.str "line" s.toks) "line" v false) _ _ _
 refine Ua (Uk (Ua ?_))
 show wpAny _ _ (instanceDict x true) _ _ _
 unfold instanceDict
 obtain⟨oc,odi,oda,osl⟩:=ox
 dsimp only at hc hd hf
 subst hc hd hf
 refine Ua (Wa hx (Ua ((RS X hcd).here (s:={s with toks:=s.toks+1}) ?_)))
 rw[hhd]
 dsimp only
 rw[Uh (by decide),Uh (by simp[typeHasDict])]
 obtain⟨hh,g,d,t,os⟩:=s
 dsimp only at hx X J hm sub h ⊢
 have hx₁:(hh.push {cls:=.type "dict",data:=.dict #[]}).get? x=some ⟨.ref C,none,.fields vs,osl⟩:=Ub _ hx
 have hxs:x≠hh.objs.size:=UK (Um hx)
 refine Ua (wpAny_alloc' ?_)
 refine Ua (wpAny_update' hx₁ ?_)
 refine Uk ?_
 have hgd:((hh.push {cls:=.type "dict",data:=.dict #[]}).update x λo=>{cls:=o.cls,dict:=some hh.objs.size,data:=o.data,slots:=o.slots}).get? hh.objs.size
   = some {cls:=.type "dict",data:=.dict #[]} :=
  (Heap.get?_update_ne _ _ _ _ hxs.symm).trans (Heap.get?_push_at rfl rfl)
 have hnd:((hh.push {cls:=.type "dict",data:=.dict #[]}).update x λo=>{cls:=o.cls,dict:=some hh.objs.size,data:=o.data,slots:=o.slots}).Ns hh.objs.size (λ_=>none) :=
  ⟨_,#[],_,hgd,rfl,λe he=>absurd he (by simp),λ_=>rfl⟩
 show wpAny _ _ (storeInDict hh.objs.size (.str "line" t) "line" v) _ _ _
 unfold storeInDict newKeyGuard
 refine Ua (Uk (Ua (wpAny_nsSet1 (Heap.Ns1.of_empty hnd) λh' hn' hs=>?_)))
 obtain⟨oD,esD,epD,hoD,hdD,hcD⟩:=hn'.count (Within.cons "line" v Within.nil)
 refine Ua (wpAny_lookBehind hoD (by rw[hdD];exact pastItsLine_dict (Uo hcD (by rw[Uz,List.length_nil,Tc];omega))) ?_)
 refine Uk (h h' _ ?_ hn' λb ob hbx hb=>?_)
 ·exact(hs.2 x hxs).trans (TY _ hx₁ rfl)
 ·exact(hs.2 b (UK (Um hb))).trans ((Heap.get?_update_ne _ _ _ _ hbx).trans (Ub _ hb))
theorem QfL{nm q:Str}{N:Addr}{bs bm:List Value}{hdct:Bool}{sn:List Str}{sub:List Value}{ab:Bool}{col:Option Bool}{dd:Option Addr}{k0 k1 k2 k3 k5:Option Value}{u0:Value}{rest:List Value}{Q:Value->Shared->Prop}(hC:s.heap.get? C=some (excClassObj nm q C N bs bm hdct sn sub ab col dd k0 k1 k2 k3 k5 "ValueError.__new__"))(Tl:OwnTail s.heap bmV bm)(hx:s.heap.get? x=some ox)(hc:ox.cls=.ref C)(hf:ox.data=.fields vs)(hz:vs[0]?=some u0)(hr:rest.length<=sizeLine)(h:∀h' u,h'.get? x=some (ox.mapFields (·.setIfInBounds 0 u))->(∀b o,b≠x->s.heap.get? b=some o->h'.get? b=some o)->Q .none {s with heap:=h'}):
  wpAny (model prog w) A (call (.builtin "ValueError.__init__") (.ref x::rest)) Q E s:=by
 have F0:=U8
 obtain⟨hh,g,d,t,os⟩:=s
 dsimp only at hC Tl hx h
 refine Rt (T6 F0.init.plain F0.initEntry (wpAny_check_init_subT F0 Tl hC hx hc ?_))
 unfold Builtin.«BaseException.__init__» Builtin.BaseException.bexcPut
 dsimp only
 rw[Uh (by decide)]
 have hx₁:(hh.push {cls:=.type "tuple",data:=.seq rest.toArray}).get? x=some ox:=Ub _ hx
 have hz':0<vs.size:=(UN.mp hz).1
 refine Ua (wpAny_newTuple (Ua (Ua (US hx₁ hf hz (Ua (T8 hx₁ hf hz' ?_))))) hr)
 have fin:Q .none ⟨(hh.push {cls:=.type "tuple",data:=.seq rest.toArray}).update x (Obj.mapFields (·.setIfInBounds 0 (.ref hh.objs.size))),g,d,t,os⟩ :=
  h _ (.ref hh.objs.size) (Ja 0 _ hx₁ hf).1 λb o hb e=>(U1 _ _ (Ne.symm hb)).trans (Ub _ e)
 cases u0 <;> first|exact WI (Uk fin)|exact Uk (Uk fin)
end
noncomputable def JS(K:Frag)(C f:Addr):Bool:=match K.lookup C with
 |some ⟨.type "type",_,.cls cd,sl⟩=>(match cd.mro,sl.toList with
  |.ref C'::bm,[_,_,_,_,some (.builtin n),_]=>C' == C && n == "ValueError.__new__" && !cd.hasDel && tailIn K bmV bm && nsOkIn K cd.ns && nsIn K cd.ns "__init__" == some (some (.ref f))
  |_,_=>false)
 |_=>false
def OwnI(C f:Addr)(h:Heap):Prop:=∃bm N nm q bs hdct sn sub ab col dd k0 k1 k2 k3 k5 mN,h.get? C=some (excClassObj nm q C N bs bm hdct sn sub ab col dd k0 k1 k2 k3 k5 "ValueError.__new__")/\h.Ns N mN/\mN "__init__" = some (.ref f)/\OwnTail h bmV bm
theorem Qdr{K:Frag}{h:Heap}{N:Addr}{mg:Str->Option Value}{n:Str}{v:Value}(X:K.In h)(G:h.Ns N mg)(e:nsIn K N n=some (some v)):mg n=some v:=by
 obtain⟨o,es,ep,ho,hd,_,hf⟩:=G
 unfold nsIn at e
 split at e
 ·rename_i c d es' n' sl q
  have:=X _ _ q
  rw[ho]at this
  cases this
  cases hd
  split at e
  ·rename_i en he
   cases e
   rw[<-hf]
   unfold nsFind findBy
   rw[<-Array.find?_toList,he]
   rfl
  ·split at e <;> cases e
 ·cases e
theorem QeJ{K:Frag}{C f:Addr}{h:Heap}(X:K.In h)(q:JS K C f=true):OwnI C f h:=by
 unfold JS at q
 split at q
 ·rename_i dd cd sl ho
  split at q
  ·rename_i C' bm k0 k1 k2 k3 n k5 hm hs
   simp only[UC,UT,Wh]at q
   obtain⟨⟨⟨⟨⟨rfl,rfl⟩,hdel⟩,ht⟩,hok⟩,hni⟩:=q
   obtain⟨nm,bs,mro,ns,qn,hd,sn,sub,ab,col,del⟩:=cd
   dsimp only at hm hdel hok hni
   subst hm hdel
   have hsl:sl = #[k0,k1,k2,k3,some (.builtin "ValueError.__new__"),k5]:=by
    obtain⟨l⟩:=sl
    simp only at hs
    rw[hs]
   subst hsl
   have hns:=Heap.Ns.of_isNs (isNs_of_in X hok)
   exact⟨bm,ns,nm,qn,bs,hd,sn,sub,ab,col,dd,k0,k1,k2,k3,k5,_,X _ _ ho,hns,Qdr X hns hni,tail_of_in X ht⟩
  ·cases q
 ·cases q
noncomputable def XN(C e:Addr)(dd:Option Addr):HO:=.ext λh=>∃o vs u0,h.get? e=some o/\(o.cls=.ref C/\o.dict=dd)/\o.data=.fields vs/\vs[0]?=some u0/\vs[1]?=some .none
noncomputable def spI(C:Addr):Sp:=λvs H Q _=>∃e n,vs=[.ref e,.int n]/\H e=some (XN C e none)/\∀dx,H dx=none->Q .non (upd (upd H dx (.xd [("line",.int n)])) e (XN C e (some dx)))
theorem Qhm{P:Program}{w:World}{H:Hp}{h:Heap}{C e:Addr}{dd:Option Addr}{o:Obj}{vs:Array Value}{u0:Value}(h1:h.get? e=some o)(h2:o.cls=.ref C/\o.dict=dd)(h3:o.data=.fields vs)(h4:vs[0]?=some u0)(h5:vs[1]?=some .none):
  ObjOk P w H h e (XN C e dd):=⟨⟨o,vs,u0,h1,h2,h3,h4,h5⟩,⟨o,h1⟩,λ_ _ ⟨o,vs,u,c1,c2⟩ k=>⟨o,vs,u,k o c1,c2⟩⟩
theorem QiT{H:Hp}{a:Addr}{o:HO}(h:H a=some o):upd H a o=H:=by
 funext b;unfold upd;split
 ·rename_i e;rw[e,h]
 ·rfl
section
variable{X:Cx}{C T f:Addr}{x y tx:Str}{j:Nat}{p1 p2 p3 p4 p5 p6 p7 p8 p9 p10:Pos}
noncomputable def tI(C:Addr):TE:=λσ H Q=>∃e,σ[0]?=some (some (.ref e))/\H e=some (XN C e none)/\Q .non H
noncomputable def tL(C:Addr):TS:=λD σ H=>∃e n,σ[0]?=some (some (.ref e))/\σ[1]?=some (some (.int n))/\H e=some (XN C e none)/\∀dx,H dx=none->D.nx σ (upd (upd H dx (.xd [("line",.int n)])) e (XN C e (some dx)))
theorem Qhn{pl:Sem Bool}(F:ExL X.K C T)(hI:JS X.K C f=true)(hT:X.mg "TapeError" = some (.ref T))(hg:Gl X "TapeError")(hN:X.N[0]?=some x)(hv:Vis X.env.scope x)(hd:(x == ("__debug__" : Str))=false)(hcd:(x == ("__classdict__" : Str))=false)(ht:eval (.Call (.Attribute (.Name "TapeError" p1) "__init__" p2) [.Name x p3,.Constant (.str tx) j p4] [] p5) X.env=(do
   let ov <-eval (.Name "TapeError" p1) X.env
   standAt p2.atName
   let (f,first) <-holding [ov] (getMethod ov "__init__" pl)
   callWith p5 f first (backTo p5 (starEach [.Name x p3,.Constant (.str tx) j p4] X.env)) (backToKw p5 (keywordEach [] X.env)))):
  PE X (.Call (.Attribute (.Name "TapeError" p1) "__init__" p2) [.Name x p3,.Constant (.str tx) j p4] [] p5) (tI C):=by
 intro pins s σ H Q I ⟨e,h0,he,hq⟩
 refine methodCall_KW (pl:=pl) (YC I hg hT ?_) ht
 refine method_cls I.kIn F.sp (cls_value I.kIn F.rd F.gi (by decide +kernel) ?_)
 have I1:=I.tok (s.toks+1)
 refine callWith_of (P:=λ_=>True) rfl (λh _=>⟨.machine,.inr (.inl rfl),.now⟩) (T4 ?_)
 have pa:PA X [.Name x p3,.Constant (.str tx) j p4] (Qfw (tVar 0) (Qfw (tC (.str tx)) tNil)):=Q6 (Qct hN hv hd hcd) (Q6 Qgl YN rfl) rfl
 refine thn (pa p5 pins _ σ H (λvs H'=>vs=[.ref e,.str tx]/\H'=H) I1 ⟨_,h0,rfl,rfl⟩) λus s2 ⟨vs,H',I2,rv,e1,e2⟩=>⟨True.intro,?_⟩
 subst e1 e2
 cases rv with
 |cons r1 r2 =>
  cases r2 with
  |cons r2 r3 =>
   cases r3
   obtain rfl:=(show _=Value.ref e from r1)
   obtain⟨tk,rfl⟩:=(show ∃t,_=Value.str tx t from r2)
   obtain⟨⟨o,vs,u0,h1,h2,h3,h4,h5⟩,_⟩:=I2.hok e _ he
   obtain⟨bm,N,nm,q,bs,hdct,sn,sub,ab,col,dd,k0,k1,k2,k3,k5,mN,hC,hN',hi,Tl⟩:=QeJ I.ok.mod.kin hI
   refine QfL (rest:=[.str tx tk]) (I2.bk _ _ hC) (Tl.keeps I2.bk) h1 h2.1 h3 h4 (by rw[Tc];show 1<=_;decide) λh' u hx' hk=>⟨.non,H',?_,rfl,hq⟩
   have I3:=I2.write (x:=e) (e:=e) (o:=XN C e none) (t':=s2.toks) (h':=h') (by rw[he];exact True.intro) (.inl rfl) (λb u hb q=>hk b u hb q) ⟨_,hx'⟩ (Qhm (u0:=u) hx' ⟨by rw[Wf];exact h2.1,by
    obtain⟨c,d,dt,sl⟩:=o;cases dt <;> exact h2.2⟩ (TR h3 _) (by
     have hz:0<vs.size:=(UN.mp h4).1
     simp[hz]) (by rw[Array.getElem?_setIfInBounds_ne (by decide)];exact h5))
   rw[QiT he]at I3
   exact I3
theorem Qho(F:ExL X.K C T)(hN:X.N[0]?=some x)(hv:Vis X.env.scope x)(hd:(x == ("__debug__" : Str))=false)(hcd:(x == ("__classdict__" : Str))=false)(hN1:X.N[1]?=some y)(hv1:Vis X.env.scope y)(hd1:(y == ("__debug__" : Str))=false)(hcd1:(y == ("__classdict__" : Str))=false):
  PS X (.Assign [.Attribute (.Name x p7) "line" p8] (.Name y p9) p10) (tL C):=by
 intro pins s σ H D I ⟨e,n,h0,h1,he,hq⟩
 refine Rz (thn (Qct (X:=X) hN1 hv1 hd1 hcd1 pins s σ H (λv H'=>v=.int n/\H'=H) I ⟨_,h1,rfl,rfl⟩) λu s1 ⟨v,H1,I1,rv,e1,e2⟩=>?_)
 subst e1 e2
 obtain⟨tk,rfl⟩:=(show ∃t,u=Value.int n t from rv)
 refine thn (Qct (X:=X) hN hv hd hcd pins s1 σ H1 (λv H'=>v=.ref e/\H'=H1) I1 ⟨_,h0,rfl,rfl⟩) λu s2 ⟨v,H2,I2,rv,e1,e2⟩=>?_
 subst e1 e2
 obtain rfl:=(show u=Value.ref e from rv)
 obtain⟨⟨o,vs,u0,g1,g2,g3,g4,g5⟩,_⟩:=I2.hok e _ he
 refine Qhl I2.kIn F g1 g2.1 g2.2 g3 λh' tk' hx' hn hk=>⟨σ,_,?_,hq s2.heap.objs.size (I2.hok.fresh (Ul _))⟩
 have ne:s2.heap.objs.size≠e:=Ra (Um g1)
 obtain⟨od,es,ep,ho,hdd,hrest⟩:=id hn
 have fr:od.isFreed=false:=by obtain⟨c,d,dt,sl⟩:=od;obtain rfl:dt=_:=hdd;rfl
 have hp:(s2.heap.push od).get? s2.heap.objs.size=some od:=Ur s2.heap fr
 have I3:=I2.laid (a:=s2.heap.objs.size) (o:=.xd [("line",.int n)]) (h':=s2.heap.push od) (t':=s2.toks) (λb u q=>Ub _ q) (Ul _) ⟨_,⟨od,es,ep,hp,hdd,hrest⟩,λf=>by
  by_cases hf:f = "line"
  ·subst hf;exact⟨tk,rfl⟩
  ·simp only[List.lookup,Uq.mpr hf,Uh hf];exact True.intro⟩
 refine I3.write (x:=e) (e:=e) (o:=XN C e (some s2.heap.objs.size)) (t':=tk') (h':=h') (by rw[Qh (Ne.symm ne),he];exact True.intro) (.inl rfl) (λb u hb q=>?_) ⟨_,hx'⟩ (Qhm hx' ⟨g2.1,rfl⟩ g3 g4 g5)
 by_cases hbd:b=s2.heap.objs.size
 ·subst hbd;rw[hp]at q;cases q;exact ho
 ·refine hk b u hb ?_
  rw[<-q]
  exact(Heap.get?_push_ne _ _ _ hbd).symm
end
end L3
namespace L3
open PySem
noncomputable def Qcd(c:Nat)(a:ME):MS:=λσ g=>match a σ g with
 |.ok (.int n) g'=>if 0<=n then .raise (c,some n.toNat) σ g' else .stuck
 |.ok _ _=>.stuck
 |.raise e g'=>.raise e σ g'
 |.stuck=>.stuck
noncomputable def QfM(c:Nat)(x:D)(g:G):Res D:=match x with
 |.ref n=>(match g[n]? with
  |some (.exc (c',some k))=>if c'=c then .ok (.int k) g else .stuck
  |_=>.stuck)
 |_=>.stuck
end L3
namespace L3
open PySem PySem.Spec PyProof.Rows L2
section
variable{P:Program}{w:World}{K:Frag}{mg:Str->Option Value}{base:Heap}{ca:Nat->Addr}
theorem Qhp{C T f:Addr}{fd:FuncData}{st:Stmt}{k:Nat}{qual tx:Str}{j:Nat}{p1 p2 p3 p4 p5 p6 p7 p8 p9 p10:Pos}{pl:Env->Sem Bool}(F:Fun K "__init__" qual st f fd)(S:FnScope ["self", "line"] ["self", "line"] (Qe st))(FX:ExL K C T)(hI:JS K C f=true)(hT:mg "TapeError" = some (.ref T))(hb:Zp st=[.Expr (.Call (.Attribute (.Name "TapeError" p1) "__init__" p2) [.Name "self" p3,.Constant (.str tx) j p4] [] p5) p6,.Assign [.Attribute (.Name "self" p7) "line" p8] (.Name "line" p9) p10])(hg:(Qe st).names.lookup ("TapeError" : Str)=some .globalImplicit)(ht:∀env,eval (.Call (.Attribute (.Name "TapeError" p1) "__init__" p2) [.Name "self" p3,.Constant (.str tx) j p4] [] p5) env=(do
   let ov <-eval (.Name "TapeError" p1) env
   standAt p2.atName
   let (f,first) <-holding [ov] (getMethod ov "__init__" (pl env))
   callWith p5 f first (backTo p5 (starEach [.Name "self" p3,.Constant (.str tx) j p4] env)) (backToKw p5 (keywordEach [] env)))):
  FnOk P w K mg base (CXW P w ca) (k+1) f fd ["self", "line"] (spI C):=by
 obtain⟨oc,od,kV,doc,pm,an,cdv,ct,osl,rfl,lk,hcd⟩:=F.ex
 refine QgX lk hcd S (λvs H Q E ⟨e,n,q,_⟩=>by rw[q];rfl) λA outer s H vs Q E hr ⟨e,n,ev,he,hq⟩=>?_
 subst ev
 refine⟨tSeq (Qh5 (tI C)) (tL C),?_,⟨e,rfl,he,e,n,rfl,rfl,he,hq⟩⟩
 have v0:Vis (Qe st) "self":=(S.par "self" (by simp)).elim .inl λz=>.inr (.inl z)
 have v1:Vis (Qe st) "line":=(S.par "line" (by simp)).elim .inl λz=>.inr (.inl z)
 rw[hb]
 exact Qcu (QdO (Qhn (pl:=pl _) FX hI hT hg rfl v0 (by decide) (by decide) (ht _))) (QdN (Qho FX rfl v0 (by decide) (by decide) rfl v1 (by decide) (by decide)))
structure RaL(P:Program)(w:World)(K:Frag)(mg:Str->Option Value)(base:Heap)(ca:Nat->Addr)(c:Nat)(x:Str):Prop where
 ex:∃(T f:Addr)(fd:FuncData),mg x=some (.ref (ca c))/\ExL K (ca c) T/\JS K (ca c) f=true/\isFn K (.ref f)=true/\FnOk P w K mg base (CXW P w ca) 1 f fd ["self", "line"] (spI (ca c))/\Binds K fd ["self", "line"] []
end
noncomputable def exlB(K:Frag)(C T:Addr):Bool:=exkB K C && findIn K (.ref C) "line" == some none && hasDictIn K C && findIn K (.ref C) "__setattr__" == some (some (.builtin "object.__setattr__")) && (clsIn K C).map (·.mro) == some (.ref C::.ref T::bmV) && readsIn K T (.type "type") && (match findCls K (.ref T) (.type "type") "__init__" with|some (.val v)=>v == .builtin "ValueError.__init__" |_=>false) && specialIn K (.ref T) "__getattribute__" == some (some (.builtin "type.__getattribute__"))
theorem QiU{K:Frag}{C T:Addr}(h:exlB K C T=true):ExL K C T:=by
 unfold exlB at h
 simp only[UC,UT]at h
 obtain⟨⟨⟨⟨⟨⟨⟨h1,h2⟩,h3⟩,h4⟩,h5⟩,h6⟩,h7⟩,h8⟩:=h
 refine⟨Qgx h1,h2,h3,h4,h5,h6,?_,h8⟩
 split at h7
 ·rename_i v q;rw[q,UT.mp h7]
 ·cases h7
noncomputable def rmH(H:Hp)(a:Addr):Hp:=λb=>if b=a then none else H b
theorem Qce{H:Hp}{a b:Addr}(h:b≠a):rmH H a b=H b:=by unfold rmH;rw[Uh h]
theorem QfN{X:Cx}{pins:List (Addr×Obj)}{σ:L2.St}{H:Hp}{s:Shared}{a:Addr}{φ:Heap->Prop}(I:Inv X pins σ H s)(ha:H a=some (.ext φ)):Inv X pins σ (rmH H a) s:=by
 have ne:∀b o,H b=some o->o≠.ext φ->b≠a:=λb o h n=>QdI h ha n
 have nn:∀b,H b=none->rmH H a b=none:=λb h=>by unfold rmH;split <;> first|rfl|exact h
 obtain⟨b1,b2,b3,b4,b5,b6,b7⟩:=I.base
 refine⟨I.ok,I.os,I.bare,⟨b1,b2,λb o q n hx=>nn b (b3 b o q n hx),b4,λb xs q=>?_,λb o u q=>?_,λb ps q=>?_⟩,I.loc,I.cell,nn _ I.free,λx c e=>nn _ (I.freeC x c e),λp hp=>?_,λb o q=>?_,I.len⟩
 ·rw[Qce (ne b _ (b5 b xs q) (by intro z;cases z))];exact b5 b xs q
 ·rw[Qce (ne b _ (b6 b o u q) (by intro z;cases z))];exact b6 b o u q
 ·obtain⟨more,e⟩:=b7 b ps q
  exact⟨more,by rw[Qce (ne b _ e (by intro z;cases z))];exact e⟩
 ·obtain⟨c1,c2,c3⟩:=I.pin p hp
  exact⟨c1,nn _ c2,c3⟩
 ·have hb:b≠a:=λz=>by unfold rmH at q;rw[Uf z]at q;cases q
  rw[Qce hb]at q
  exact(I.hok b o q).stay (λ_ _ _ z=>z) (λc z=>by rw[Qce (ne c _ z (by intro y;cases y))];exact z) λc xs z=>by rw[Qce (ne c _ z (by intro y;cases y))];exact z
section
variable{X:Cx}{ca:Nat->Addr}{e:Expr}{me:ME}{np cpos pos:Pos}{c:Nat}{x:Str}
theorem QfO(h:RaL X.prog X.w X.K X.mg X.base ca c x)(hr:Room 2 X.A)(ha:PE3 ca X e me)(hg:Gl X x:=by rfl)(hdb:(x == ("__debug__" : Str))=false:=by decide)(he:starEach [e] X.env=(false,eval e X.env)::starEach [] X.env:=by rfl):PS3 ca X (.Raise (some (.Call (.Name x np) [e] [] cpos)) none pos) (Qcd c me):=by
 intro pn Φ pins s σ H En I ⟨σ3,g,μ,R,p⟩
 obtain⟨T,f,fd,hm,FX,hI,hfn,F,hB⟩:=h.ex
 obtain⟨bm,N,nm,q,bs,hdct,sn,sub,ab,col,dd,k0,k1,k2,k3,k5,mN,hC,hN,hi,Tl⟩:=QeJ (h:=X.base) I.ok.mod.kin hI
 obtain⟨oI,hoI,hfc⟩:∃oI,X.base.get? f=some oI/\oI.cls=.type "function":=by
  obtain⟨o,ho,z⟩:=Rv.mp (show(X.K.lookup f).map (·.cls)=some (.type "function") from UT.mp hfn)
  exact⟨o,I.ok.mod.kin _ _ ho,z⟩
 refine Qdq (C:=ca c) (nm:=nm) (q:=q) (N:=N) (bs:=bs) (bm:=bm) (hdct:=hdct) (sn:=sn) (sub:=sub) (ab:=ab) (col:=col) (dd:=dd) (k0:=k0) (k1:=k1) (k2:=k2) (k3:=k3) (k5:=k5)
  U8 (mN:=mN) (Tl.hasType U8.hasBase) hr.hd ?_ hi hfc (YC I hg hm ⟨rfl,?_⟩ hdb)
 ·show(backTo cpos (starEach [e] X.env)).any (·.1)=false
  rw[he];rfl
 ·have z:up X.K ca Φ me σ H λv H1=>∃n:Nat,v=.int n/\∀dx,H1 dx=none->Φ (c,some n) σ (upd H1 dx (.xd [("line",.int n)])):=by
   refine⟨σ3,g,μ,R,?_⟩
   unfold Qcd at p
   cases hm:me σ3 g with
   |raise _ _=>rw[hm]at p;exact RaP.stmt R p
   |stuck=>rw[hm]at p;exact p
   |ok d g1 =>
    rw[hm]at p
    cases d with
    |int n =>
     dsimp only at p
     by_cases hn:0<=n
     ·rw[Uf hn]at p
      intro v H1 μ1 e1 r1 q1
      cases q1
      refine⟨n.toNat,by rw[Int.toNat_of_nonneg hn],λdx hdx=>p σ _ μ1 (e1.trans (QD hdx)) (R.go (e1.trans (QD hdx)) (r1.new hdx))⟩
     ·rw[Uh hn]at p;exact p.elim
    |_=>exact p.elim
  have pa:PA (xat X ca pn Φ) [e] (Qfw (up X.K ca Φ me) tNil):=Q6 (ha pn Φ) YN he
  have az:=pa cpos pins s σ H (λvs H1=>∃n:Nat,vs=[.int n]/\∀dx,H1 dx=none->Φ (c,some n) σ (upd H1 dx (.xd [("line",.int n)]))) I (QJ z λv H1 ⟨n,q1,q2⟩=>⟨n,by rw[q1],q2⟩)
  have he':starEach [e] (xat X ca pn Φ).env=(false,eval e X.env)::starEach [] X.env:=he
  show wpAny _ _ (evalArgs (.ref (ca c)) true (backTo cpos (starEach [e] X.env)) []) _ _ s
  rw[he']at az
  rw[he]
  refine T4 (UM az (λus s2 ⟨vs,H1,I1,r1,n,ev,hΦ⟩=>⟨rfl,?_,I1.bk _ _ hC,hN.keeps I1.bk,Tl.keeps I1.bk,I1.bk _ _ hoI,λh' ea hmd=>?_⟩) λ_ _ y=>y)
  ·show us.length<=_
   rw[<-r1.length,ev,Tc];show 1<=_;decide
  subst ev
  cases r1 with
  |cons ru rn =>
   cases rn
   obtain⟨tk,rfl⟩:=(show ∃t,_=Value.int n t from ru)
   have I2:Inv (xon X pn) [] σ H1 s2:=(Qed I1).pins_of λp hp=>absurd hp (by simp)
   have hn:H1 ea=none:=by
    cases hq:H1 ea with
    |none=>rfl
    |some o =>
     obtain⟨o',ho'⟩:=Inv.there' I2 hq
     rw[hmd.new]at ho';cases ho'
   obtain⟨t,ht,_⟩:=hmd.there
   have I3:Inv (xon X pn) [] σ (upd H1 ea (XN (ca c) ea none)) {s2 with heap:=h'}:=Qas (I2.kept (t':=s2.toks) hmd.keeps) (Qaq I2 hmd.new hn) (Qhm (u0:=.ref t) ht ⟨rfl,rfl⟩ rfl rfl rfl)
   refine Rt (RX (F.run _ X.stack _ _ ⟨[Value.ref ea,.int n tk],[]⟩ [Value.ref ea,.int n tk] [.ref ea,.int n] (λv H'=>v=.non/\∃dx,upd H1 ea (XN (ca c) ea none) dx=none/\H'=upd (upd (upd H1 ea (XN (ca c) ea none)) dx (.xd [("line",.int n)])) ea (XN (ca c) ea (some dx))) (λ_ _ _=>False)
    (hr.make (ca c) [.int n tk] []) (I3.env0.make (ca c) [.int n tk] []) (hB _ [Value.ref ea,.int n tk] I3.kIn rfl) (.cons rfl (.cons ⟨tk,rfl⟩ .nil)) ⟨ea,n,rfl,Ql,λdx hdx=>⟨rfl,dx,hdx,rfl⟩⟩) λr s' hq'=>?_)
   cases r with
   |error e=>obtain⟨_,_,_,_,_,_,_,_,_,_,z⟩:=hq';exact z.elim
   |ok fl =>
    cases fl with
    |ret u =>
     obtain⟨v,H',I4,rv,ev,dx,hdx,eH⟩:=I3.after hq'
     subst ev eH
     have nd:dx≠ea:=λz=>by rw[z,Ql]at hdx;cases hdx
     have hd1:H1 dx=none:=by rw[Qh nd]at hdx;exact hdx
     obtain⟨⟨o,ws,u1,d1,d2,d3,d4,d5⟩,_⟩:=I4.hok ea _ Ql
     have I5:=QfN I4 (a:=ea) Ql
     have eq:rmH (upd (upd (upd H1 ea (XN (ca c) ea none)) dx (.xd [("line",.int n)])) ea (XN (ca c) ea (some dx))) ea=upd H1 dx (.xd [("line",.int n)]):=by
      funext b
      by_cases hb:b=ea
      ·rw[hb,Qh (Ne.symm nd),hn];unfold rmH;rw[Uf rfl]
      ·rw[Qce hb,Qh hb]
       by_cases hb2:b=dx
       ·rw[hb2,Ql,Ql]
       ·rw[Qh hb2,Qh hb2,Qh hb]
     rw[eq]at I5
     have hlast:upd H1 dx (.xd [("line",.int n)]) ea=none:=by rw[Qh (Ne.symm nd)];exact hn
     refine⟨rv,I5.bk _ _ hC,⟨o,ws,d1,d2.1,d3,d5⟩,⟨ea,(c,some n),σ,_,rfl,I5,⟨Qaq I2 hmd.new hlast,True.intro,o,ws,d1,⟨d2.1,?_⟩,d3,(UN.mp d5).1,.inl d5⟩,hΦ dx hd1⟩⟩
     rw[d2.2];exact Ql
    |next=>exact False.elim hq'
    |brk=>exact False.elim hq'
    |cont=>exact False.elim hq'
theorem QfP{prog:Program}{w:World}{A:Around}{E:Value->Shared->Prop}{s:Shared}{K:Frag}{C T e:Addr}{oe od:Obj}{b:Bool}{v:Value}{Q:Value->Shared->Prop}(X:K.In s.heap)(F:ExL K C T)(I:PySem.W.InstAt s.heap e oe C (some od))(hl:lookIn "line" od=some (some v))(hv:handedIn v=true)(h:Q v {s with toks:=s.toks+1}):wpAny (model prog w) A (getAttr (.ref e) "line" b) Q E s:=by
 obtain⟨hh,g,d,t,os⟩:=s
 have L0:=I.type (M:=model prog w)
 have L1:=Tf (M:=model prog w) X F.ga
 have L2:=Tf (M:=model prog w) X F.gx
 have L3:=looks_find (M:=model prog w) X I (findObj_own F.hd F.na rfl hl)
 have hb:=Wp.ga.bind (.ref e)
 unfold getAttr getAttrBy
 refine Ua (wpAny_mkText (U9 (Ua (L0.at (Ua (L1.at ?_))))))
 show wpAny _ _ (getAttrByItsOwn _ _ _ _ _ _) _ _ _
 unfold getAttrByItsOwn hookBefore callGetattribute boundAndCalled
 refine Ua (L2.at ?_)
 refine Ua (RJ (U9 ?_))
 rw[show(b && onTheHeap (Value.builtin "BaseException.__getattribute__"))=false from by cases b <;> rfl,Uh (by decide)]
 show wpAny _ _ (bindSpecial (.builtin "BaseException.__getattribute__") (.ref e) >>= _) _ _ _
 rw[hb]
 refine Ua (Uk ?_)
 refine Rt (T6 Wp.ga.plain WB (QcQ (s:=⟨hh,g,d,t+1,os⟩) X F.toExK I ?_))
 unfold Builtin.«object.__getattribute__»
 refine Ua (RM (a:=(Value.ref e,[Value.str "line" t])) rfl ?_)
 refine Ua (RM (a:=Str.ofString "line") rfl ?_)
 refine Ua (L0.at (Ua (L3.at ?_)))
 refine Uk ?_
 show wpAny (model prog w) A (handedOut v) _ _ _
 rw[handedOut_of hv]
 exact Uk h
theorem QiV(h:RaL X.prog X.w X.K X.mg X.base ca c x)(ho:PE3 ca X e me)(hb:attributeBase e "line" X.env (eval e X.env)=eval e X.env:=by rfl):PE3 ca X (.Attribute e "line" pos) (mOp1 (QfM c) me):=by
 obtain⟨_,_,_,_,F,_⟩:=h.ex
 intro pn Φ pins s σ H Q I ⟨σ3,g,μ,R,q⟩
 refine QdX hb (thn (ho pn Φ pins s σ H _ I (Yc R q)) λu s1 ⟨x,H1,I1,rx,d,g1,μ1,e1,R1,q1,p1⟩=>?_)
 cases q1 with
 |@ref n a hn =>
  dsimp only[QfM]at p1
  cases hg:g1[n]? with
  |none=>rw[hg]at p1;exact p1.elim
  |some o =>
   rw[hg]at p1
   obtain⟨a',ha',ob⟩:=R1.g.addr hg
   rw[hn]at ha';cases ha'
   cases o with
   |exc ex =>
    obtain⟨c',l⟩:=ex
    cases l with
    |none=>exact p1.elim
    |some k =>
     dsimp only at p1
     by_cases hc:c'=c
     ·rw[Uf hc]at p1
      subst hc
      obtain⟨dd,ob,hL⟩:=ob
      obtain⟨⟨oo,vs,h1,h2,h3⟩,_⟩:=I1.hok a _ ob
      cases dd with
      |none=>exact(show False from hL).elim
      |some dx =>
       obtain⟨mA,hns,hr⟩:=I1.hok dx _ hL
       obtain⟨od,hod,hlk⟩:=Qbf hns
       obtain⟨u',hu,ru⟩:=RelO.some_of (v:=.int k) (o:=mA "line") (hr "line")
       have J:PySem.W.InstAt s1.heap a oo (ca c') (some od):=⟨h1,h2.1,by obtain⟨c,d,dt,sl⟩:=oo;obtain rfl:dt=_:=h3;rfl,by rw[h2.2];exact hod⟩
       cases rx
       exact QfP I1.kIn F J (by rw[hlk,hu]) (Qbg ru) ⟨.int k,H1,I1.tok _,ru,p1 _ H1 μ1 .refl R1.g (.int _)⟩
     ·rw[Uh hc]at p1;exact p1.elim
   |_=>exact p1.elim
 |_=>exact p1.elim
end
end L3
namespace L3
open PySem
noncomputable def insL{α:Type}(xs:List α)(k:Nat)(y:α):List α:=xs.take k++y::xs.drop k
noncomputable def QaS(o i e:ME):ME:=λσ g=>(o σ g).bind λx g1=>match x with
 |.ref n=>(match g1[n]? with
  |some (.lst _)=>(i σ g1).bind λz g2=>(e σ g2).bind λy g3=>(match z,g3[n]? with
   |.int k,some (.lst ds)=>if 0<=k/\k<=ds.length/\ds.length<SZ then .ok .non (g3.set n (.lst (insL ds k.toNat y))) else .stuck
   |_,_=>.stuck)
  |_=>.stuck)
 |_=>.stuck
noncomputable def QaT(d:D)(g:G):Res Src:=match Qs g d with
 |some (true,ds)=>.ok ⟨λg i=>(match Qs g d with
  |some (_,es)=>(match es[i]? with
   |some x=>some (some (.tup [.int i,x]))
   |none=>some none)
  |none=>none),ds.length⟩ g
 |_=>.stuck
noncomputable def Ym(a:ME):MI:=λσ g=>(a σ g).bind QaT
end L3
namespace L3
open PySem PySem.Spec PyProof.Rows L2
noncomputable def Ite(K:Frag)(a:Addr):It :=
  ⟨λi H=>∃xs x,SqL K H a xs/\xs[i]?=some x,
   λi H v H'=>∃p x,H p=none/\v=.ref p/\H'=upd H p (.tup [.int (i:Int),x])/\∀xs,SqL K H a xs->xs[i]?=some x,
   λi H=>∃xs,SqL K H a xs/\xs.length<=i⟩
def EnTn(e it l:Addr)(i:Nat)(h:Heap):Prop:=(∃old,IsEnum h e it (i:Int) old)/\h.IsListIter it l i
theorem QeK{P:Program}{w:World}{K:Frag}{elts:List Expr}{kk:Nat}{tp:Pos}(e it l:Addr)(hei:e≠it):
  Turn P w K (.Tuple elts kk tp) (Ite K l) [e,it] e (EnTn e it l) where
 mem:=by simp
 obj:=λi h st b hb=>by
  obtain⟨⟨old,hE⟩,hI⟩:=st
  have hb':b=e\/b=it:=by simpa using hb
  rcases hb' with rfl|rfl
  ·exact⟨_,hE,λv q=>by cases q⟩
  ·obtain⟨o,eo,c,d⟩:=hI
   exact⟨o,eo,λv z=>by rw[d]at z;cases z⟩
 keep:=λi h h' st k=>by
  obtain⟨⟨old,hE⟩,hI⟩:=st
  exact⟨⟨old,k e (by simp) _ hE⟩,hI.at λo x=>k it (by simp) o x⟩
 item:=by
  intro X hP hw hK hc i pins s σ H E I hf st hg
  subst hP hw hK
  obtain⟨xs,x,q1,hx⟩:=hg
  obtain⟨its,r1,p1,hz1⟩:=I.list q1
  obtain⟨u,hu,ru⟩:=r1.get hx
  obtain⟨⟨old,hE⟩,hI⟩:=st
  have fe:=hf e (by simp)
  have fi:=hf it (by simp)
  refine wpAny_pyNext_enum_item hE hI p1.isList (x:=u) (by simpa using hu) hei λh' ho hit' hT hsz hk=>?_
  have hp:H s.heap.objs.size=none:=I.hok.fresh (Ul _)
  have inC:∀b,b∈[e,it]->FpOk X pins H b:=λb hb=>hf b hb
  have hk':∀b o,b∉[e,it]->s.heap.get? b=some o->h'.get? b=some o:=λb o hb ee=>hk b o (λq=>hb (by simp[q])) (λq=>hb (by simp[q])) ee
  have nC:∀b v,H b=some v->b∉[e,it]:=λb v ee hb=>by rw[(inC b hb).1]at ee;cases ee
  have nP:∀b v,H b=some v->b≠s.heap.objs.size:=λb v ee=>Qx ee hp
  have I1:Inv X pins σ (upd H s.heap.objs.size (.tup [.int (i:Int),x])) {s with heap:=h',toks:=s.toks+1}:=by
   refine I.step (g':=s.gens) (t':=s.toks+1) (d':=s.drawn) (ch:=[e,it]) (λb hb=>⟨(inC b hb).2.2.2.1,(inC b hb).2.1,(inC b hb).2.2.2.2.1,(inC b hb).2.2.2.2.2⟩) (λb o _ _ hb ee _=>hk' b o hb ee) (λb o _ _ hb ee _=>⟨o.slots,hk' b o hb ee⟩)
    (λb o hb ee n=>by rw[Qh (UK (Um ee))];exact n) (λb o hb ee=>⟨o,hk' b o hb ee⟩) (λb v ee=>by rw[Qh (nP b _ ee)];exact ee) (λb o v ee=>by rw[Qh (nP b _ ee)];exact ee) (λb ps ee=>⟨#[],by rw[Qh (nP b _ ee),ee];simp⟩)
    (λm hm=>?_) (λb v ee=>?_) I.bare
   ·obtain⟨o,es,ep,hoo,rr⟩:=hm
    exact⟨o,es,ep,hk' _ o (λhb=>(inC _ hb).2.1 rfl) hoo,rr⟩
   ·by_cases hb:b=s.heap.objs.size
    ·subst hb
     rw[Ql]at ee;cases ee
     exact⟨by rw[Tc];show 2<=16777216;decide,[.int (i:Int) s.toks,u],.cons ⟨_,rfl⟩ (.cons ru .nil),⟨_,hT,rfl,rfl,_,rfl⟩⟩
    ·rw[Qh hb]at ee
     refine(I.hok b v ee).stay (λc' v' hc' q=>?_) (λc' q=>by rw[Qh (nP c' _ q)];exact q) λc' xs' q=>by rw[Qh (nP c' _ q)];exact q
     rcases hc' with rfl|hc'
     ·exact hk' _ _ (nC _ _ ee) q
     ·exact hk' _ _ (nC _ _ hc') q
  refine⟨_,rfl,wpAny_letOwnedTupleGo_enum (s:={s with heap:=h',toks:=s.toks+1}) ho λh'' hE'' hs''=>?_⟩
  have hpe:s.heap.objs.size≠e:=Ra (Um hE)
  have I2:Inv X pins σ (upd H s.heap.objs.size (.tup [.int (i:Int),x])) {s with heap:=h'',toks:=s.toks+1}:=Inv.turned (s:={s with heap:=h',toks:=s.toks+1}) (t':=s.toks+1) I1 (λb o hb ee=>hs''.extBut b o hb ee) (by rw[Qh (Ne.symm hpe)];exact fe.1) fe.2.1 fe.2.2.2.1 fe.2.2.2.2.1 fe.2.2.2.2.2
  have e2:(i:Int)+1=((i+1:Nat):Int):=by omega
  rw[e2]at hE''
  refine⟨.ref s.heap.objs.size,_,I2,rfl,⟨_,x,hp,rfl,rfl,λxs' q=>by rw[I.list_inj q q1];exact hx⟩,⟨⟨_,hE''⟩,hit'.at λo ee=>hs''.extBut _ o (Ne.symm hei) ee⟩,λb hb=>?_⟩
  have lt:b<s.heap.objs.size:=by
   have hb':b=e\/b=it:=by simpa using hb
   rcases hb' with rfl|rfl
   ·exact Um hE
   ·obtain⟨o,eo,_⟩:=hI
    exact Um eo
  rw[Qh (UK lt)]
  exact(hf b hb).1
 done:=by
  intro X hP hw hK hc i pins s σ H E I hf st hg
  subst hP hw hK
  obtain⟨xs,q1,hl⟩:=hg
  obtain⟨its,r1,p1,hz1⟩:=I.list q1
  have hlen:=r1.length
  obtain⟨⟨old,hE⟩,hI⟩:=st
  obtain⟨f0,f1,f2,f3,f4,f5⟩:=hf it (by simp)
  exact wpAny_pyNext_enum_end (I.ok.hd hc) hE hI p1.isList (Array.getElem?_eq_none (by simp;omega)) λh' eb=>⟨rfl,I.turned (t':=s.toks) (λb o hb ee=>eb b o hb ee) f0 f1 f3 f4 f5⟩
 self:=λ_ _ _ _ _ st h=>by
  obtain⟨⟨old,hE⟩,_⟩:=st
  exact wpAny_pyIter_enum hE h
section
variable{X:Cx}{ca:Nat->Addr}{e1:Expr}{m1:ME}{p pos tp:Pos}{elts:List Expr}{kk:Nat}
theorem Qhq{ta:TA}(hg:Gl X "enumerate")(hm:X.mg "enumerate" = none)(ha:PA X [e1] ta)(hs:starEach [e1] X.env=[(false,eval e1 X.env)]):
  PI X (.Tuple elts kk tp) (.Call (.Name "enumerate" p) [e1] [] pos) (λσ H R=>ta σ H λvs H1=>∃a xs,vs=[.ref a]/\SqL X.K H1 a xs/\R (Ite X.K a) H1):=by
 intro pins s σ H R I h
 refine Call_ (Qao I hg hm boot_enumerate (To (thn (ha pos pins s σ H _ I h) λus s1 ⟨vs,H1,I1,r1,q1⟩=>?_) hs rfl))
 obtain⟨a,xs,rfl,hq,q⟩:=q1
 cases r1 with
 |cons ru rr =>
  cases rr
  cases ru
  obtain⟨its,v1,p1,hz⟩:=I1.list hq
  refine call_enumerate_list p1.isList λh' hE hI hsz hk=>wpAny_pyIter_enum hE ?_
  have I2:Inv X pins σ H1 {s1 with heap:=h'}:=I1.kept (t':=s1.toks) hk
  refine⟨s1.heap.objs.size+1,_,_,_,H1,rfl,I2,QeK _ s1.heap.objs.size a (Nat.succ_ne_self _),⟨⟨_,hE⟩,hI⟩,λb hb=>?_,q⟩
  have hb':b=s1.heap.objs.size+1\/b=s1.heap.objs.size:=by simpa using hb
  have hle:s1.heap.objs.size<=b:=by rcases hb' with h|h <;> rw[h] <;> first|exact Ul _|exact Nat.le_add_right _ _
  exact I1.fpOk hle (I1.hok.fresh hle)
theorem QfQ{K:Frag}{μ:List Addr}{H:Hp}{g:G}{v1:V}{d1:D}{xs:List D}{t:Nat}(q1:Den K μ H v1 d1)(h1:Qs g d1=some (true,xs)){a1:Addr}(e1:v1=.ref a1):
  Sim K ca μ H ⟨λg i=>(match Qs g d1 with
  |some (_,es)=>(match es[i]? with
   |some x=>some (some (.tup [.int i,x]))
   |none=>some none)
  |none=>none),t⟩ (Ite K a1):=by
 intro i H1 μ1 g1 ex r
 dsimp only
 cases k1:Qs g1 d1 with
 |none=>trivial
 |some p1 =>
  obtain⟨c1,xs1⟩:=p1
  have f1:=Je (K:=K) (μ:=μ) (H:=H) (μ':=μ) (H':=H) (v:=v1) h1 k1
  subst f1
  obtain⟨z1,vs,w1,s1,d1s⟩:=Z6 r (q1.mono ex) k1
  rw[e1]at w1;cases w1
  dsimp only
  cases hx:xs1[i]? with
  |none =>
   refine⟨vs,s1,?_⟩
   rw[d1s.length];exact UZ.mp hx
  |some x =>
   obtain⟨vx,hvx,qx⟩:=d1s.get hx
   refine⟨⟨vs,vx,s1,hvx⟩,λv H' yl=>?_⟩
   obtain⟨pp,x',hp,rfl,rfl,u1⟩:=yl
   have:=u1 vs s1
   rw[hvx]at this;cases this
   exact⟨QD hp,r.new hp,.tup (.of Ql) (.cons (.int _) (.cons (qx.mono (QD hp)) .nil))⟩
theorem QfR(hm:X.mg "enumerate" = none)(h1:PE3 ca X e1 m1)(hg:Gl X "enumerate":=by rfl)(hs:starEach [e1] X.env=[(false,eval e1 X.env)]:=by rfl):PI3 ca X (.Tuple elts kk tp) (.Call (.Name "enumerate" p) [e1] [] pos) (Ym m1) :=
 λpn Φ=>JM (Qhq (X:=xat X ca pn Φ) hg hm (ZY h1 Qp hs pn Φ) hs) λσ H R hQ=>by
  obtain⟨σ3,g,μ,Rp,q⟩:=hQ
  refine⟨σ3,g,μ,Rp,?_⟩
  unfold Ym at q
  unfold Qa mNil
  cases hm1:m1 σ3 g with
  |raise _ _=>rw[hm1]at q;exact q
  |stuck=>rw[hm1]at q;exact q.elim
  |ok d1 g1 =>
   rw[hm1,Res.bind_ok]at q
   rw[Res.bind_ok,Res.bind_ok]
   intro vs H1 μ1 ex r1 q1
   unfold QaT at q
   cases hs1:Qs g1 d1 with
   |none=>rw[hs1]at q;exact q.elim
   |some p1 =>
    obtain⟨b,ds⟩:=p1
    rw[hs1]at q
    cases b with
    |false=>exact q.elim
    |true =>
     cases q1 with
     |@cons v _ _ _ n1 q1 =>
      cases q1
      obtain⟨a,ws,rfl,sq,dn⟩:=Z6 r1 n1 hs1
      exact⟨a,ws,rfl,sq,q _ H1 μ1 ex r1 (QfQ n1 hs1 rfl)⟩
end
end L3
namespace L2
open PySem PySem.Spec PyProof.Rows
section
variable{κ:Type}[DecidableEq κ]
noncomputable def valV(kvs:List (κ×V))(k:κ):Option V:=(kvs.find? λkv=>decide (kv.1=k)).map (·.2)
noncomputable def putK(kvs:List (κ×V))(k:κ)(v:V):List (κ×V) :=
 if (kvs.any λkv=>decide (kv.1=k))=true then kvs.map (λkv=>if kv.1=k then (kv.1,v) else kv) else kvs++[(k,v)]
noncomputable def QfS(kvs:List (κ×V))(k:κ):List (κ×V):=kvs.filter λkv=>decide (kv.1≠k)
theorem QcU{p:κ×V}{r:List (κ×V)}{k:κ}(e:p.1=k):valV (p::r) k=some p.2:=by simp[valV,TX,e]
theorem QcV{p:κ×V}{r:List (κ×V)}{k:κ}(e:¬p.1=k):valV (p::r) k=valV r k:=by simp[valV,TX,e]
theorem RelO.getD{o:Option V}{u:Option Value}{d:V}{d':Value}(r:RelO o u)(rd:RelV d d'):RelV (o.getD d) (u.getD d'):=by
 cases o with
 |none=>cases u with
  |none=>exact rd
  |some _=>exact(show False from r).elim
 |some _=>cases u with
  |none=>exact(show False from r).elim
  |some _=>exact r
theorem KV.val{kvs:List (κ×V)}{vs:List (κ×Value)}(r:KV kvs vs)(k:κ):RelO (valV kvs k) (valueAt vs k):=by
 unfold KV at r
 induction r with
 |nil=>exact True.intro
 |@cons p q ps qs h t ih =>
  obtain⟨h1,h2⟩:=h
  by_cases e:p.1=k
  ·have e':q.1=k:=h1.symm.trans e
   have b:valueAt (q::qs) k=some q.2:=by simp[valueAt,TX,e']
   rw[QcU e,b];exact h2
  ·have e':¬q.1=k:=λz=>e (h1.trans z)
   have b:valueAt (q::qs) k=valueAt qs k:=by simp[valueAt,TX,e']
   rw[QcV e,b];exact ih
theorem KV.any{kvs:List (κ×V)}{vs:List (κ×Value)}(r:KV kvs vs)(k:κ):(kvs.any λkv=>decide (kv.1=k))=vs.any λkv=>decide (kv.1=k):=by
 unfold KV at r
 induction r with
 |nil=>rfl
 |cons h t ih=>rw[TH,TH,ih,h.1]
theorem KV.repl{kvs:List (κ×V)}{vs:List (κ×Value)}(r:KV kvs vs)(k:κ){y:V}{u:Value}(ry:RelV y u):
  KV (kvs.map λkv=>if kv.1=k then (kv.1,y) else kv) (vs.map λkv=>if kv.1=k then (kv.1,u) else kv):=by
 unfold KV at r ⊢
 induction r with
 |nil=>exact .nil
 |@cons p q ps qs h t ih =>
  rw[UO,UO]
  refine .cons ?_ ih
  obtain⟨h1,h2⟩:=h
  by_cases e:p.1=k
  ·rw[Uf e,Uf (h1.symm.trans e)];exact⟨h1,ry⟩
  ·rw[Uh e,Uh (λz=>e (h1.trans z))];exact⟨h1,h2⟩
theorem KV.put{kvs:List (κ×V)}{vs:List (κ×Value)}(r:KV kvs vs)(k:κ){y:V}{u:Value}(ry:RelV y u):KV (putK kvs k y) (stored vs k u):=by
 unfold putK stored
 rw[r.any k]
 by_cases e:(vs.any λkv=>decide (kv.1=k))=true
 ·rw[Uf e,Uf e];exact r.repl k ry
 ·rw[Uh e,Uh e];exact Paired.snoc r ⟨rfl,ry⟩
theorem KV.drop{kvs:List (κ×V)}{vs:List (κ×Value)}(r:KV kvs vs)(k:κ):KV (QfS kvs k) (without vs k):=by
 unfold KV at r ⊢
 unfold QfS without
 induction r with
 |nil=>exact .nil
 |@cons p q ps qs h t ih =>
  obtain⟨h1,h2⟩:=h
  rw[RF,RF]
  by_cases e:p.1=k
  ·have a:¬decide (p.1≠k)=true:=by simp[e]
   have b:¬decide (q.1≠k)=true:=by simp[h1.symm.trans e]
   rw[Uh a,Uh b];exact ih
  ·have e':¬q.1=k:=λz=>e (h1.trans z)
   have a:decide (p.1≠k)=true:=by simp[e]
   have b:decide (q.1≠k)=true:=by simp[e']
   rw[Uf a,Uf b];exact .cons ⟨h1,h2⟩ ih
theorem KV.length{kvs:List (κ×V)}{vs:List (κ×Value)}(r:KV kvs vs):kvs.length=vs.length:=Paired.length r
end
section
variable{P:Program}{w:World}{H:Hp}{h:Heap}{a:Addr}
end
section
variable{X:Cx}{pins:List (Addr×Obj)}{σ:St}{H:Hp}{s:Shared}{a:Addr}{y v:V}{u r:Value}{o:Option V}{A:Around}{E:Value->Shared->Prop}
end
section
variable{X:Cx}{pins:List (Addr×Obj)}{σ:St}{H:Hp}{s:Shared}{a:Addr}{kvs:List (Key×V)}{k:Key}{u:Value}{A:Around}{E:Value->Shared->Prop}
end
section
variable{X:Cx}{o i e value:Expr}{pos pos' tpos:Pos}{td ty tv:TE}
end
section
variable{X:Cx}{pos:Pos}
end
section
variable{X:Cx}{pins:List (Addr×Obj)}{σ:St}{H:Hp}{s:Shared}{a:Addr}{y d:V}{u r:Value}{o:Option V}{A:Around}{E:Value->Shared->Prop}
end
section
variable{X:Cx}{o e f:Expr}{apos cpos:Pos}{td ty tx:TE}
end
section
variable{X:Cx}{pins:List (Addr×Obj)}{σ:St}{H:Hp}{s:Shared}{a:Addr}{kvs:List (Key×V)}{A:Around}{E:Value->Shared->Prop}
end
section
variable{X:Cx}{pins:List (Addr×Obj)}{σ:St}{H:Hp}{s:Shared}{a:Addr}{y:V}{u:Value}{A:Around}{E:Value->Shared->Prop}
end
end L2
namespace L3
open PySem
noncomputable abbrev DK:=Sum Int Str
noncomputable def dGet(ks:List (DK×D))(k:DK):Option D:=(ks.find? λp=>decide (p.1=k)).map (·.2)
noncomputable def dPut(ks:List (DK×D))(k:DK)(v:D):List (DK×D):=if (ks.any λp=>decide (p.1=k))=true then ks.map λp=>if p.1=k then (p.1,v) else p else ks++[(k,v)]
noncomputable def QiW(ks:List (DK×D))(k:DK):List (DK×D):=ks.filter λp=>decide (p.1≠k)
end L3
namespace L3
open PySem PySem.Spec PyProof.Rows L2
section
variable{K:Frag}{μ:List Addr}{H:Hp}
theorem KRel.get{kv:List (Key×V)}{ks:List (Key×D)}(r:KRel K μ H kv ks)(k:Key):(valV kv k=none/\dGet ks k=none)\/∃v d,valV kv k=some v/\dGet ks k=some d/\Den K μ H v d:=by
 unfold KRel at r
 induction r with
 |nil=>exact .inl ⟨rfl,rfl⟩
 |@cons p q ps qs h t ih =>
  obtain⟨h1,h2⟩:=h
  by_cases e:p.1=k
  ·refine .inr ⟨p.2,q.2,QcU e,?_,h2⟩
   unfold dGet;rw[TX,UL (h1.symm.trans e)];rfl
  ·have e':dGet (q::qs) k=dGet qs k:=by
    unfold dGet;rw[TX,Uw (λz=>e (h1.trans z))]
   rw[QcV e,e'];exact ih
theorem KRel.put{kv:List (Key×V)}{ks:List (Key×D)}{v:V}{d:D}(r:KRel K μ H kv ks)(k:Key)(h:Den K μ H v d):KRel K μ H (putK kv k v) (dPut ks k d):=by
 have ha:(kv.any λp=>decide (p.1=k))=ks.any λp=>decide (p.1=k):=by
  unfold KRel at r
  induction r with
  |nil=>rfl
  |cons h t ih=>rw[TH,TH,ih,h.1]
 unfold putK dPut
 rw[ha]
 by_cases e:(ks.any λp=>decide (p.1=k))=true
 ·rw[Uf e,Uf e]
  clear ha e
  unfold KRel at r ⊢
  induction r with
  |nil=>exact .nil
  |@cons p q ps qs hp t ih =>
   rw[UO,UO]
   refine .cons ?_ ih
   obtain⟨h1,h2⟩:=hp
   by_cases e:p.1=k
   ·rw[Uf e,Uf (h1.symm.trans e)];exact⟨h1,h⟩
   ·rw[Uh e,Uh (λz=>e (h1.trans z))];exact⟨h1,h2⟩
 ·rw[Uh e,Uh e];exact Paired.snoc r ⟨rfl,h⟩
theorem KRel.drop{kv:List (Key×V)}{ks:List (Key×D)}(r:KRel K μ H kv ks)(k:Key):KRel K μ H (QfS kv k) (QiW ks k):=by
 unfold KRel at r ⊢
 unfold QfS QiW
 induction r with
 |nil=>exact .nil
 |@cons p q ps qs h t ih =>
  obtain⟨h1,h2⟩:=h
  rw[RF,RF,<-h1]
  by_cases e:decide (p.1≠k)=true
  ·rw[Uf e,Uf e];exact .cons ⟨h1,h2⟩ ih
  ·rw[Uh e,Uh e];exact ih
end
section
variable{X:Cx}
end
section
variable{X:Cx}{ca:Nat->Addr}{o e f:Expr}{mo me mf:ME}{p pos apos:Pos}
end
end L3
namespace L3
open PySem
noncomputable def QfT(x y:D)(g:G):Res D:=match x,y with
 |.int i,.int j=>.ok (.int (if j<i then j else i)) g
 |_,_=>.stuck
noncomputable def QfU(x y:D)(g:G):Res D:=match x,y with
 |.int i,.int j=>.ok (.int (if i<j then j else i)) g
 |_,_=>.stuck
noncomputable def pStr(x:D)(g:G):Res D:=match x with
 |.int i=>if 0<=i/\i<10^100 then .ok (.str (Str.ofString (toString i))) g else .stuck
 |_=>.stuck
end L3
namespace L3
open PySem PySem.Spec PyProof.Rows L2
section
variable{X:Cx}
end
section
variable{X:Cx}{ca:Nat->Addr}{a b e f o:Expr}{ma mb me mf mo:ME}{p pos apos:Pos}
theorem QgB{x:Str}{id:String}{r:List V->Hp->VK->Prop}{h:D->D->G->Res D}(hc:∀pn Φ,CallR (xat X ca pn Φ) (.builtin id) r)(hm:X.mg x=none)(hv:bootBuiltins x=some (.builtin id))(hp:∀(Φ:XS) (σ:L2.St) (H:Hp) (μ:List Addr) (g:G) (y z:V) (d c:D) (Q:VK),GRep X.K ca μ H g->Den X.K μ H y d->Den X.K μ H z c->Post X.K ca Φ σ Q H μ (h d c g)->r [y,z] H Q)(he:PE3 ca X e me)(hf:PE3 ca X f mf)(hg:Gl X x)(hn:x ≠ "__name__")(hdb:(x == ("__debug__" : Str))=false)(hs:starEach [e,f] X.env=(false,eval e X.env)::starEach [f] X.env)(hs2:starEach [f] X.env=(false,eval f X.env)::starEach [] X.env)(hpl:(backTo pos (starEach [f] X.env)).any (·.1)=false):PE3 ca X (.Call (.Name x p) [e,f] [] pos) (mOp2 h me mf) :=
 λpn Φ=>QS (Z4 (X:=xat X ca pn Φ) (hc pn Φ) hg hm hv (ZY he (ZY hf Qp hs2) hs pn Φ) hn hdb hs hpl) λσ H Q hQ=>by
  obtain⟨σ3,g,μ,R,q⟩:=hQ
  refine⟨σ3,g,μ,R,?_⟩
  unfold mOp2 at q
  unfold Qa mNil
  cases hm:me σ3 g with
  |raise _ _=>rw[hm]at q;exact q
  |stuck=>rw[hm]at q;exact q.elim
  |ok d g1 =>
   rw[hm,Res.bind_ok]at q
   rw[Res.bind_ok]
   cases hm2:mf σ3 g1 with
   |raise _ _=>rw[hm2]at q;exact q
   |stuck=>rw[hm2]at q;exact q.elim
   |ok c g2 =>
    rw[hm2,Res.bind_ok]at q
    rw[Res.bind_ok,Res.bind_ok,Res.bind_ok]
    intro vs H1 μ1 e1 r1 q1
    cases q1 with
    |cons h1 h2=>cases h2 with
     |cons h2 h3 =>
      cases h3
      exact hp Φ σ H1 μ1 g2 _ _ d c Q r1 h1 h2 (q.go e1)
theorem QiX(hc:X.calm=true)(hm:X.mg "min" = none)(he:PE3 ca X e me)(hf:PE3 ca X f mf)(hg:Gl X "min":=by rfl)(hs:starEach [e,f] X.env=(false,eval e X.env)::starEach [f] X.env:=by rfl)(hs2:starEach [f] X.env=(false,eval f X.env)::starEach [] X.env:=by rfl)(hpl:(backTo pos (starEach [f] X.env)).any (·.1)=false:=by rfl):
  PE3 ca X (.Call (.Name "min" p) [e,f] [] pos) (mOp2 QfT me mf) :=
 QgB (λpn Φ=>QdW (X:=xat X ca pn Φ) hc) hm boot_min (λΦ σ H μ g y z d c Q r q1 q2 pp=>by
  unfold QfT at pp
  cases q1 with
  |int i =>
   cases q2 with
   |int j=>exact⟨i,j,rfl,pp _ H μ .refl r (.int _)⟩
   |_=>exact pp.elim
  |_=>cases q2 <;> exact pp.elim) he hf hg (by decide) (by decide) hs hs2 hpl
theorem QiY(hc:X.calm=true)(hm:X.mg "max" = none)(he:PE3 ca X e me)(hf:PE3 ca X f mf)(hg:Gl X "max":=by rfl)(hs:starEach [e,f] X.env=(false,eval e X.env)::starEach [f] X.env:=by rfl)(hs2:starEach [f] X.env=(false,eval f X.env)::starEach [] X.env:=by rfl)(hpl:(backTo pos (starEach [f] X.env)).any (·.1)=false:=by rfl):
  PE3 ca X (.Call (.Name "max" p) [e,f] [] pos) (mOp2 QfU me mf) :=
 QgB (λpn Φ=>QdV (X:=xat X ca pn Φ) hc) hm boot_max (λΦ σ H μ g y z d c Q r q1 q2 pp=>by
  unfold QfU at pp
  cases q1 with
  |int i =>
   cases q2 with
   |int j=>exact⟨i,j,rfl,pp _ H μ .refl r (.int _)⟩
   |_=>exact pp.elim
  |_=>cases q2 <;> exact pp.elim) he hf hg (by decide) (by decide) hs hs2 hpl
theorem QgC(hm:X.mg "str" = none)(he:PE3 ca X e me)(hg:Gl X "str":=by rfl)(hs:starEach [e] X.env=[(false,eval e X.env)]:=by rfl)(hpl:(backTo pos (starEach [] X.env)).any (·.1)=false:=by rfl):
  PE3 ca X (.Call (.Name "str" p) [e] [] pos) (mOp1 pStr me) :=
 r_ty (λ_ _=>Qbe) hm boot_str (λΦ σ H μ g y d Q r q pp=>by
  unfold pStr at pp
  cases q with
  |int i =>
   dsimp only at pp
   by_cases z:0<=i/\i<10^100
   ·rw[Uf z]at pp
    refine⟨i,rfl,?_,pp _ H μ .refl r (.str _)⟩
    have h:i.natAbs<2^1920:=Uv (show i.natAbs<10^100 by omega) (by decide +kernel)
    by_cases h0:i.natAbs=0
    ·rw[h0];decide
    ·exact(Nat.log2_lt h0).mpr h
   ·rw[Uh z]at pp;exact pp.elim
  |_=>exact pp.elim) he hg (by decide) (by decide) hs hpl
end
end L3
namespace L3
open PySem
noncomputable def Qbx:List D->Option (List Str)
 |[]=>some []
 |.str s::r=>(Qbx r).map (s :: ·)
 |_::_=>none
noncomputable def sumL(ss:List Str):Nat:=(ss.map (·.length)).sum
noncomputable def YF(x y:D)(g:G):Res D:=match x,y with
 |.str sep,.ref n=>(match g[n]? with
  |some (.lst ds)=>(match Qbx ds with
   |some ss=>if sep.length<=16/\sumL ss+ss.length<=SZ then .ok (.str (Str.join sep ss)) g else .stuck
   |none=>.stuck)
  |_=>.stuck)
 |_,_=>.stuck
noncomputable def mSM(f:D->D->G->Res D)(o e:ME):ME:=λσ g=>(o σ g).bind λx g1=>match x with
 |.str s=>(e σ g1).bind λy g2=>f (.str s) y g2
 |_=>.stuck
theorem smOk{f:D->D->G->Res D}{a b:ME}{σ:S3}{s:Str}{y:D}{g g1 g2:G}{R:Res D}(ha:a σ g=.ok (.str s) g1)(hb:b σ g1=.ok y g2)(h:f (.str s) y g2=R):mSM f a b σ g=R:=by unfold mSM;rw[ha,Res.bind_ok];dsimp only;rw[hb,Res.bind_ok,h]
end L3
namespace L3
open PySem PySem.Spec PyProof.Rows L2
section
variable{X:Cx}{ca:Nat->Addr}{a b:Expr}{ma mb:ME}{p pos:Pos}{tg:Expr}
end
section
variable{X:Cx}{ca:Nat->Addr}{e e1 e2:Expr}{es:List Expr}{me:ME}{mr:MA}{pos:Pos}
end
section
variable{X:Cx}{ca:Nat->Addr}{o e:Expr}{mo me:ME}{pos apos:Pos}
theorem r_sm{name:Str}{id:String}{r:V->List V->Hp->VK->Prop}{f:D->D->G->Res D}(slot:Slot "str" name id)(hty:typeOf (.builtin id)=pure (.type "method_descriptor"))(hm:∀pn Φ,MtR (xat X ca pn Φ) id r)(hp:∀(Φ:XS) (σ:L2.St) (H:Hp) (μ:List Addr) (g:G) (s:Str) (y:V) (d:D) (Q:VK),GRep X.K ca μ H g->Den X.K μ H y d->Post X.K ca Φ σ Q H μ (f (.str s) d g)->r (.str s) [y] H Q)(ho:PE3 ca X o mo)(he:PE3 ca X e me)(hbase:attributeBase o name X.env (eval o X.env)=eval o X.env)(hfew:((backTo pos (starEach [e] X.env)).all (λx=>!x.1) && (backToKw pos (keywordEach [] X.env)).all (λx=>x.1.isSome) && decide ([e].length+([]:List Keyword).length+(if ([]:List Keyword).isEmpty then 0 else 1)<30))=true)(hline:(apos.endLine == pos.line)=true)(hs:starEach [e] X.env=(false,eval e X.env)::starEach [] X.env)(hplain:(backTo pos (starEach [] X.env)).any (·.1)=false):
  PE3 ca X (.Call (.Attribute o name apos) [e] [] pos) (mSM f mo me) :=
 λpn Φ=>QS (Qg3 (X:=xat X ca pn Φ) PySem.F.plainAttrs_str slot hty (hm pn Φ) (ho pn Φ) (ZY he Qp hs pn Φ) hbase hfew hline hs hplain) λσ H Q ⟨σ3,g,μ,R,q⟩=>QJ (Yc R q) λx H1 hQ=>by
  obtain⟨d,g1,μ1,e1,R1,q1,p1⟩:=hQ
  cases q1 with
  |str s =>
   dsimp only at p1
   refine⟨rfl,σ3,g1,μ1,R1,?_⟩
   unfold Qa mNil
   cases hm:me σ3 g1 with
   |raise _ _=>rw[hm]at p1;exact p1
   |stuck=>rw[hm]at p1;exact p1.elim
   |ok y g2 =>
    rw[hm,Res.bind_ok]at p1
    rw[Res.bind_ok,Res.bind_ok]
    intro vs H2 μ2 e2 r2 q2
    cases q2 with
    |cons h1 h2 =>
     cases h2
     exact hp Φ σ H2 μ2 g2 s _ y Q r2 h1 (p1.go e2)
  |_=>exact p1.elim
theorem QcW:∀{ys:List Str}{its:List Value},Vals (ys.map V.str) its->StrsAre its ys
 |[],_,r=>by cases r;exact .nil
 |y::ys,_,r=>by
  cases r with
  |cons h t =>
   obtain⟨k,rfl⟩:=h
   exact .cons y k (QcW t)
theorem Qhr:MtR X "str.join" (λx vs H Q=>∃(sep:Str)(a:Addr)(ys:List Str),x=.str sep/\vs=[.ref a]/\SqL X.K H a (ys.map V.str)/\sep.length<=16/\sumL ys+ys.length<=SZ/\Q (.str (Str.join sep ys)) H):=by
 intro pins s σ H x vs v us Q I rx rv h
 obtain⟨sep,a,ys,rfl,rfl,hq,h1,h2,q⟩:=h
 obtain⟨t,rfl⟩:=rx
 obtain⟨u,rfl,ru⟩:=rv.one
 cases ru
 obtain⟨its,r,pl,hz⟩:=I.list hq
 refine join_listW pl.isList (QcW r) h1 (Uo h2 (by decide)) λt' k=>⟨.str (Str.join sep ys),H,I.tok _,⟨t',?_⟩,q⟩
 rw[show Txt.join sep ys=Str.join sep ys from StrLaws.glued_eq_join sep ys]
theorem Qby{K:Frag}{μ:List Addr}{H:Hp}:∀{vs:List V}{ds:List D}{ss:List Str},Dens K μ H vs ds->Qbx ds=some ss->vs=ss.map V.str
 |_,_,ss,.nil,h=>by cases h;rfl
 |_,_,ss,.cons (ds:=ds) h1 h2,h=>by
  cases h1 with
  |str i =>
   unfold Qbx at h
   cases hr:Qbx ds with
   |none=>rw[hr]at h;cases h
   |some ms=>rw[hr]at h;cases h;rw[UO,Qby h2 hr]
  |_=>cases h
theorem Qav(ho:PE3 ca X o mo)(he:PE3 ca X e me)(hbase:attributeBase o "join" X.env (eval o X.env)=eval o X.env:=by rfl)(hfew:((backTo pos (starEach [e] X.env)).all (λx=>!x.1) && (backToKw pos (keywordEach [] X.env)).all (λx=>x.1.isSome) && decide ([e].length+([]:List Keyword).length+(if ([]:List Keyword).isEmpty then 0 else 1)<30))=true:=by rfl)(hline:(apos.endLine == pos.line)=true:=by rfl)(hs:starEach [e] X.env=(false,eval e X.env)::starEach [] X.env:=by rfl)(hplain:(backTo pos (starEach [] X.env)).any (·.1)=false:=by rfl):
  PE3 ca X (.Call (.Attribute o "join" apos) [e] [] pos) (mSM YF mo me) :=
 r_sm (r:=λx vs H Q=>∃(sep:Str)(a:Addr)(ys:List Str),x=V.str sep/\vs=[V.ref a]/\SqL X.K H a (ys.map V.str)/\sep.length<=16/\sumL ys+ys.length<=SZ/\Q (V.str (Str.join sep ys)) H) PySem.F.slot_str_join PySem.F.type_str_join (λpn Φ=>Qhr (X:=xat X ca pn Φ)) (λΦ σ H μ g s y d Q r q pp=>by
  unfold YF at pp
  cases q with
  |@ref n t hn =>
   dsimp only at pp
   cases hgn:g[n]? with
   |none=>rw[hgn]at pp;exact pp.elim
   |some ob =>
    rw[hgn]at pp
    obtain⟨t',ht',orp⟩:=r.addr hgn
    rw[hn]at ht';cases ht'
    cases ob with
    |lst ds =>
     obtain⟨vs,hH,q⟩:=orp
     dsimp only at pp
     cases hi:Qbx ds with
     |none=>rw[hi]at pp;exact pp.elim
     |some ss =>
      rw[hi]at pp
      dsimp only at pp
      by_cases z:s.length<=16/\sumL ss+ss.length<=SZ
      ·rw[Uf z]at pp
       have ew:=Qby q hi
       subst ew
       exact⟨s,t,ss,rfl,rfl,.of hH,z.1,z.2,pp _ H μ .refl r (.str _)⟩
      ·rw[Uh z]at pp;exact pp.elim
    |_=>exact pp.elim
  |_=>exact pp.elim) ho he hbase hfew hline hs hplain
end
end L3
namespace L3
open PySem
noncomputable def cutC(c:Nat):List Nat->List (List Nat)
 |[]=>[[]]
 |a::r=>if a=c then []::cutC c r else (match cutC c r with
  |[]=>[[a]]
  |p::q=>(a::p)::q)
noncomputable def Z1(c:Nat):List Nat->Option (List Nat×List Nat)
 |[]=>none
 |a::r=>if a=c then some ([],r) else (Z1 c r).map λp=>(a::p.1,p.2)
noncomputable def oneC(s:Str):Option Nat:=match s.cps.toList with
 |[c]=>some c
 |_=>none
noncomputable def ofL(l:List Nat):Str:=⟨l.toArray⟩
noncomputable def Za(x y:D)(g:G):Res D:=match x,y with
 |.str s,.str t=>(match oneC t with
  |some c=>if s.length<=SZ/\c<128 then .ok (.ref g.length) (g++[.lst ((cutC c s.cps.toList).map λl=>.str (ofL l))]) else .stuck
  |none=>.stuck)
 |_,_=>.stuck
noncomputable def QeL(s t:Str)(c:Nat):D:=match Z1 c s.cps.toList with
 |some p=>.tup [.str (ofL p.1),.str t,.str (ofL p.2)]
 |none=>.tup [.str s,.str Str.empty,.str Str.empty]
noncomputable def Zs(x y:D)(g:G):Res D:=match x,y with
 |.str s,.str t=>(match oneC t with
  |some c=>if s.length<=SZ then .ok (QeL s t c) g else .stuck
  |none=>.stuck)
 |_,_=>.stuck
noncomputable def pInS(x y:D)(g:G):Res D:=match x,y with
 |.str s,.str t=>(match oneC s with
  |some c=>.ok (.bl (decide (c∈t.cps.toList))) g
  |none=>.stuck)
 |_,_=>.stuck
noncomputable def JT(a:ME):MI:=λσ g=>(a σ g).bind λd g1=>match d with
 |.str s=>if s.cps.toList.all (λc=>decide (c<128))=true/\s.length<=SZ then .ok ⟨λ_ i=>some (s.cps.toList[i]?.map λc=>.str ⟨#[c]⟩),s.length⟩ g1 else .stuck
 |_=>.stuck
noncomputable def dval(l:List Nat):Nat:=l.foldl (λa c=>a*10+(c-48)) 0
noncomputable def Qds(x:D)(g:G):Res D:=match x with
 |.str s=>if s.cps.toList.all (λc=>decide (48<=c/\c<=57))=true/\1<=s.length/\s.length<=60 then .ok (.int (dval s.cps.toList:Nat)) g else .stuck
 |_=>.stuck
noncomputable def QcX(c:Nat)(x:D)(g:G):Res D:=match x with
 |.ref n=>(match g[n]? with
  |some (.ins k _)=>if k=c then .ok (.bl true) g else .stuck
  |_=>.stuck)
 |_=>.stuck
end L3
namespace L3
open PySem PySem.Spec PyProof.Rows PySem.Builtin PySem.Builtin.Str
theorem Qbz{c:Nat}:∀{p:List Nat},c∉p->cutC c p=[p]
 |[],_=>rfl
 |a::r,h=>by
  unfold cutC
  rw[Uh (λz=>h (by rw[z];exact Up ..)),Qbz (λz=>h (Uj _ z))]
theorem QeM{c:Nat}(q:List Nat):∀{p:List Nat},c∉p->cutC c (p++c::q)=p::cutC c q
 |[],_=>by rw[RQ,cutC,Uf rfl]
 |a::r,h=>by
  rw[RG,cutC,Uh (λz=>h (by rw[z];exact Up ..)),QeM q (λz=>h (Uj _ z))]
theorem QbA(s:PySem.Str):ofL s.cps.toList=s:=by unfold ofL;rw[WH]
theorem QbB{c:Nat}:∀{ss:List PySem.Str},ss≠[]->(∀s∈ss,c∉s.cps.toList)->(cutC c (PySem.Str.join (ofL [c]) ss).cps.toList).map ofL=ss
 |[],h,_=>(h rfl).elim
 |[s],_,h=>by
  show(cutC c s.cps.toList).map ofL=[s]
  rw[Qbz (h s (Up ..)),Rn,QbA]
 |s::t::r,_,h=>by
  show(cutC c (s++ofL [c]++PySem.Str.join (ofL [c]) (t::r)).cps.toList).map ofL=_
  have e:(s++ofL [c]++PySem.Str.join (ofL [c]) (t::r)).cps.toList=s.cps.toList++c::(PySem.Str.join (ofL [c]) (t::r)).cps.toList:=by
   show(s.cps ++ #[c]++(PySem.Str.join (ofL [c]) (t::r)).cps).toList=_
   rw[RU,RU,TZ];rfl
  rw[e,QeM _ (h s (Up ..)),UO,QbA,QbB (TL t r) λx hx=>h x (Uj _ hx)]
theorem QfV(x:PySem.Str)(c:Nat):Txt.split x ⟨#[c]⟩≠[]:=by
 unfold Txt.split
 split
 ·exact TL _ _
 ·split
  ·exact TL _ _
  ·rw[StrLaws.partsBetween_eq]
   obtain⟨p,r,e⟩:=StrLaws.partsFrom_ne x (⟨#[c]⟩:PySem.Str).length 0 (occurrences x ⟨#[c]⟩ 0 x.length (x.length+1))
   rw[e];exact TL _ _
theorem QeN(x:PySem.Str)(c:Nat):Txt.split x (ofL [c])=(cutC c x.cps.toList).map ofL:=by
 have h:=QbB (c:=c) (QfV x c) (StrLaws.split_free x c)
 have e:PySem.Str.join (ofL [c]) (Txt.split x ⟨#[c]⟩)=x:=StrLaws.join_split x ⟨#[c]⟩
 rw[e]at h
 exact h.symm
theorem QbC:∀{l:List Nat}{c:Nat},c∉l->Z1 c l=none
 |[],_,_=>rfl
 |a::r,c,h=>by
  unfold Z1
  rw[Uh (λz=>h (by rw[z];exact Up ..)),QbC (λz=>h (Uj _ z))];rfl
theorem QeO{c:Nat}(q:List Nat):∀{p:List Nat},c∉p->Z1 c (p++c::q)=some (p,q)
 |[],_=>by rw[RQ,Z1,Uf rfl]
 |a::r,h=>by
  rw[RG,Z1,Uh (λz=>h (by rw[z];exact Up ..)),QeO q (λz=>h (Uj _ z))];rfl
theorem QfW(x:PySem.Str)(c:Nat):(occurrences x (ofL [c]) 0 x.length 1=[]/\Z1 c x.cps.toList=none)\/∃i r,occurrences x (ofL [c]) 0 x.length 1=i::r/\Z1 c x.cps.toList=some ((strSub x 0 i).cps.toList,(strSub x (i+1) x.length).cps.toList):=by
 have hn:x.cps.toList.length=x.length:=Tk
 rcases StrLaws.occ_head x (ofL [c]) 1 (Ul _) with⟨e,h⟩|⟨i,r,e,h,h2⟩
 ·refine .inl ⟨e,QbC λhm=>?_⟩
  obtain⟨j,hj⟩:=T5 hm
  exact h j ((T1 x c j).mpr hj)
 ·refine .inr ⟨i,r,e,?_⟩
  have hi:=(T1 x c i).mp h
  obtain⟨hlt,hv⟩:=Ui.mp hi
  rw[StrLaws.strSub_toList,StrLaws.strSub_toList,List.drop_zero,Nat.sub_zero]
  have e1:x.cps.toList=x.cps.toList.take i++c::x.cps.toList.drop (i+1):=by
   rw[<-hv,<-List.drop_eq_getElem_cons hlt,WD]
  have e2:(x.cps.toList.drop (i+1)).take (x.length - (i+1))=x.cps.toList.drop (i+1):=Rw (by rw[Td];omega)
  rw[e2]
  conv=>lhs;rw[e1]
  refine QeO _ λhm=>?_
  obtain⟨j,hj⟩:=T5 hm
  have hji:j<i:=by
   have:=(Ui.mp hj).1
   rw[U3]at this;omega
  rw[Wj hji]at hj
  exact h2 j hji ((T1 x c j).mpr hj)
theorem Qhs(x:PySem.Str)(c:Nat):(!(occurrences x (ofL [c]) 0 x.length 1).isEmpty)=decide (c∈x.cps.toList):=by
 rcases StrLaws.occ_head x (ofL [c]) 1 (Ul _) with⟨e,h⟩|⟨i,r,e,h,_⟩
 ·rw[e]
  rw[Uw]
  ·rfl
  ·intro hm
   obtain⟨j,hj⟩:=T5 hm
   exact h j ((T1 x c j).mpr hj)
 ·rw[e,UL (Tz ((T1 x c i).mp h))];rfl
section
variable{prog:Program}{w:World}{A:Around}{E:Value->Shared->Prop}{s:Shared}{x y:PySem.Str}{t u:Tok}{Q:Value->Shared->Prop}
theorem Qdt(hy:(y.length == 0)=false)(h:∀(l:List (PySem.Str×Tok)) k,l.map (·.1)=Txt.split x y->Q (.ref s.heap.objs.size) {s with heap:=s.heap.push {cls:=.type "list",data:=.seq (strValues l).toArray},toks:=k})(hsz:x.length+2<=sizeLine):wpAny (model prog w) A (call (.builtin "str.split") [.str x t,.str y u]) Q E s:=by
 have hn:(partsBetween x (occurrences x y 0 x.length (x.length+1)) y.length).length<=sizeLine:=by
  have e1:=StrLaws.occ_length_le x y 0 x.length (x.length+1)
  rw[length_partsBetween];omega
 cases h1:(decide (x.length<y.length) || decide (strKind x<strKind y))
 ·cases hf:(occurrences x y 0 x.length (x.length+1)).isEmpty
  ·refine RH TN (Wc _ _ _) Rq (Rg _ _) (meets_str_split_sep x y t u h1 hy hf (by omega) hn) ?_
   show wants Q E _ {s with toks:=_,heap:=s.heap.push {cls:=.type "list",data:=.seq (strsFrom s.toks (partsBetween x (occurrences x y 0 x.length (x.length+1)) y.length)).toArray} }
   rw[strsFrom_eq]
   exact h (numbered s.toks _) _ ((numbered_texts _ _).trans ((Uh (RV h1)).trans (Uh (RV hf))).symm)
  ·exact RH TN (Wc _ _ _) Rq (Rg _ _) (meets_str_split_not_found x y t u h1 hy hf)
    (h [(x,t)] s.toks ((Uh (RV h1)).trans (Uf hf)).symm)
 ·exact RH TN (Wc _ _ _) Rq (Rg _ _) (meets_str_split_cannot_occur x y t u h1)
   (h [(x,t)] s.toks (Uf h1).symm)
end
end L3
namespace L3
open PySem PySem.Spec PyProof.Rows L2
section
variable{X:Cx}{ca:Nat->Addr}{o e:Expr}{mo me:ME}{pos apos:Pos}
theorem QeP{t:Str}{c:Nat}(h:oneC t=some c):t=ofL [c]:=by
 unfold oneC at h
 split at h
 ·rename_i d hd
  cases h
  rw[<-QbA t,hd]
 ·cases h
theorem QbD:∀l:List (Str×Tok),Vals ((l.map (·.1)).map V.str) (strValues l)
 |[]=>.nil
 |p::r=>.cons ⟨p.2,rfl⟩ (QbD r)
theorem Jl{K:Frag}{μ:List Addr}{H:Hp}:∀ss:List Str,Dens K μ H (ss.map V.str) (ss.map D.str)
 |[]=>.nil
 |s::r=>.cons (.str s) (Jl r)
theorem QeQ(c:Nat):∀l:List Nat,(cutC c l).length<=l.length+1
 |[]=>Ul _
 |a::r=>by
  have ih:=QeQ c r
  unfold cutC
  split
  ·rw[Uz,Uz];omega
  ·split
   ·rw[Uz];simp
   ·rename_i hq
    rw[hq]at ih
    rw[Uz]at ih ⊢
    rw[Uz];omega
theorem QfX:MtR X "str.split" (λx vs H Q=>∃(s:Str)(c:Nat),x=.str s/\vs=[.str (ofL [c])]/\s.length<=SZ/\∀l,H l=none->Q (.ref l) (upd H l (.lst (((cutC c s.cps.toList).map ofL).map V.str)))):=by
 intro pins s σ H x vs v us Q I rx rv h
 obtain⟨z,c,rfl,rfl,hz,q⟩:=h
 obtain⟨t,rfl⟩:=rx
 obtain⟨u,rfl,ru⟩:=rv.one
 obtain⟨t2,rfl⟩:=ru
 have hsz:z.length+2<=sizeLine:=Uo (Nat.add_le_add_right hz 2) (by rw[Tc];decide)
 refine Qdt rfl (λl k hl=>?_) hsz
 rw[QeN]at hl
 have hv:=QbD l
 rw[hl]at hv
 have hln:(((cutC c z.cps.toList).map ofL).map V.str).length<=sizeLine:=by
  have h1:=QeQ c z.cps.toList
  have h2:z.cps.toList.length=z.length:=Tk
  rw[Uc,Uc]
  omega
 exact⟨.ref s.heap.objs.size,_,I.laid (a:=s.heap.objs.size) (o:=.lst (((cutC c z.cps.toList).map ofL).map V.str)) (t':=k) (λb o e=>Ub _ e) (Ul _) ⟨hln,strValues l,0,hv,Ur _ rfl⟩,rfl,q _ (I.hok.fresh (Ul _))⟩
theorem JU(ho:PE3 ca X o mo)(he:PE3 ca X e me)(hbase:attributeBase o "split" X.env (eval o X.env)=eval o X.env:=by rfl)(hfew:((backTo pos (starEach [e] X.env)).all (λx=>!x.1) && (backToKw pos (keywordEach [] X.env)).all (λx=>x.1.isSome) && decide ([e].length+([]:List Keyword).length+(if ([]:List Keyword).isEmpty then 0 else 1)<30))=true:=by rfl)(hline:(apos.endLine == pos.line)=true:=by rfl)(hs:starEach [e] X.env=(false,eval e X.env)::starEach [] X.env:=by rfl)(hplain:(backTo pos (starEach [] X.env)).any (·.1)=false:=by rfl):
  PE3 ca X (.Call (.Attribute o "split" apos) [e] [] pos) (mSM Za mo me) :=
 r_sm (r:=λx vs H Q=>∃(s:Str)(c:Nat),x=V.str s/\vs=[V.str (ofL [c])]/\s.length<=SZ/\∀l,H l=none->Q (V.ref l) (upd H l (.lst (((cutC c s.cps.toList).map ofL).map V.str)))) TN PySem.F.type_str_split (λpn Φ=>QfX (X:=xat X ca pn Φ)) (λΦ σ H μ g s y d Q r q pp=>by
  unfold Za at pp
  cases q with
  |str t =>
   dsimp only at pp
   cases hc:oneC t with
   |none=>rw[hc]at pp;exact pp.elim
   |some c =>
    rw[hc]at pp
    dsimp only at pp
    by_cases z:s.length<=SZ/\c<128
    ·rw[Uf z]at pp
     refine⟨s,c,rfl,by rw[QeP hc],z.1,λl hl=>pp _ _ (μ++[l]) (QA hl) (r.push hl ⟨_,Ql,?_⟩) (.ref (by rw[<-r.len];simp))⟩
     have e:(cutC c s.cps.toList).map (λl=>D.str (ofL l))=((cutC c s.cps.toList).map ofL).map D.str:=by rw[TC];rfl
     rw[e]
     exact Jl _
    ·rw[Uh z]at pp;exact pp.elim
  |_=>exact pp.elim) ho he hbase hfew hline hs hplain
noncomputable def QeR(s t:Str)(c:Nat):List V:=match Z1 c s.cps.toList with
 |some p=>[.str (ofL p.1),.str t,.str (ofL p.2)]
 |none=>[.str s,.str Str.empty,.str Str.empty]
theorem QfY:MtR X "str.partition" (λx vs H Q=>∃(s:Str)(c:Nat),x=.str s/\vs=[.str (ofL [c])]/\s.length<=SZ/\∀l,H l=none->Q (.ref l) (upd H l (.tup (QeR s (ofL [c]) c)))):=by
 intro pins s σ H x vs v us Q I rx rv h
 obtain⟨z,c,rfl,rfl,hz,q⟩:=h
 obtain⟨t,rfl⟩:=rx
 obtain⟨u,rfl,ru⟩:=rv.one
 obtain⟨t2,rfl⟩:=ru
 have hf:=I.hok.fresh (Ul s.heap.objs.size)
 have h3:(3:Nat)<=sizeLine:=by rw[Tc];decide
 refine RH RZ (Wc _ _ _) PySem.F.entry_str_partition (PySem.F.args_str_partition_2 _ _) (meets_str_partition z (ofL [c]) t t2 rfl (Uo hz ZD)) ?_
 have q':=q _ hf
 unfold QeR at q'
 rcases QfW z c with⟨e1,e2⟩|⟨i,r,e1,e2⟩
 ·rw[e1]
  rw[e2]at q'
  exact⟨.ref s.heap.objs.size,_,I.laid (a:=s.heap.objs.size) (o:=.tup [.str z,.str Str.empty,.str Str.empty]) (t':=s.toks+1) (λb o e=>Ub _ e) (Ul _) ⟨h3,[.str z t,.str Str.empty s.toks,.str Str.empty s.toks],.cons ⟨_,rfl⟩ (.cons ⟨_,rfl⟩ (.cons ⟨_,rfl⟩ .nil)),⟨_,Ur _ rfl,rfl,rfl,_,rfl⟩⟩,rfl,q'⟩
 ·rw[e1]
  rw[e2]at q'
  dsimp only at q'
  rw[QbA,QbA]at q'
  exact⟨.ref s.heap.objs.size,_,I.laid (a:=s.heap.objs.size) (o:=.tup [.str (Builtin.Str.strSub z 0 i),.str (ofL [c]),.str (Builtin.Str.strSub z (i+1) z.length)]) (t':=s.toks+1+1) (λb o e=>Ub _ e) (Ul _) ⟨h3,[.str (Builtin.Str.strSub z 0 i) s.toks,.str (ofL [c]) t2,.str (Builtin.Str.strSub z (i+1) z.length) (s.toks+1)],.cons ⟨_,rfl⟩ (.cons ⟨_,rfl⟩ (.cons ⟨_,rfl⟩ .nil)),⟨_,Ur _ rfl,rfl,rfl,_,rfl⟩⟩,rfl,q'⟩
theorem QfZ{K:Frag}{μ:List Addr}{H:Hp}{a:Addr}{s t:Str}{c:Nat}(h:SqT K H a (QeR s t c)):Den K μ H (.ref a) (QeL s t c):=by
 unfold QeR at h
 unfold QeL
 cases hp:Z1 c s.cps.toList with
 |none=>rw[hp]at h;exact .tup h (.cons (.str _) (.cons (.str _) (.cons (.str _) .nil)))
 |some p=>rw[hp]at h;exact .tup h (.cons (.str _) (.cons (.str _) (.cons (.str _) .nil)))
theorem Qht(ho:PE3 ca X o mo)(he:PE3 ca X e me)(hbase:attributeBase o "partition" X.env (eval o X.env)=eval o X.env:=by rfl)(hfew:((backTo pos (starEach [e] X.env)).all (λx=>!x.1) && (backToKw pos (keywordEach [] X.env)).all (λx=>x.1.isSome) && decide ([e].length+([]:List Keyword).length+(if ([]:List Keyword).isEmpty then 0 else 1)<30))=true:=by rfl)(hline:(apos.endLine == pos.line)=true:=by rfl)(hs:starEach [e] X.env=(false,eval e X.env)::starEach [] X.env:=by rfl)(hplain:(backTo pos (starEach [] X.env)).any (·.1)=false:=by rfl):
  PE3 ca X (.Call (.Attribute o "partition" apos) [e] [] pos) (mSM Zs mo me) :=
 r_sm (r:=λx vs H Q=>∃(s:Str)(c:Nat),x=V.str s/\vs=[V.str (ofL [c])]/\s.length<=SZ/\∀l,H l=none->Q (V.ref l) (upd H l (.tup (QeR s (ofL [c]) c)))) RZ PySem.F.type_str_partition (λpn Φ=>QfY (X:=xat X ca pn Φ)) (λΦ σ H μ g s y d Q r q pp=>by
  unfold Zs at pp
  cases q with
  |str t =>
   dsimp only at pp
   cases hc:oneC t with
   |none=>rw[hc]at pp;exact pp.elim
   |some c =>
    rw[hc]at pp
    dsimp only at pp
    have et:=QeP hc
    subst et
    by_cases z:s.length<=SZ
    ·rw[Uf z]at pp
     exact⟨s,c,rfl,rfl,z,λl hl=>pp _ _ μ (QD hl) (r.new hl) (QfZ (.of Ql))⟩
    ·rw[Uh z]at pp;exact pp.elim
  |_=>exact pp.elim) ho he hbase hfew hline hs hplain
end
section
variable{X:Cx}{ca:Nat->Addr}{a b e:Expr}{ma mb me:ME}{p pos:Pos}{tg:Expr}
theorem Qf0{K:Frag}:Yd K ca (λx y H Q=>∃i j,x=.str i/\y=.str j/\Q (.bl (!(Builtin.Str.occurrences j i 0 j.length 1).isEmpty)) H) pInS:=by
 intro Φ σ H μ g x y dx dy Q r qx qy p
 unfold pInS at p
 cases qx with
 |str s =>
  cases qy with
  |str t =>
   dsimp only at p
   cases hc:oneC s with
   |none=>rw[hc]at p;exact p.elim
   |some c =>
    rw[hc]at p
    have es:=QeP hc
    subst es
    exact⟨_,t,rfl,rfl,by rw[Qhs];exact p _ H μ .refl r (.bl _)⟩
  |_=>exact p.elim
 |_=>cases qy <;> exact p.elim
theorem QjJ(ha:PE3 ca X a ma)(hb:PE3 ca X b mb)(hm:behindInMarks .In b=false:=by rfl):PE3 ca X (.Compare a [.In] [b] pos) (mOp2 pInS ma mb):=Qdk (λ_ _=>QdT) Qf0 ha hb hm
noncomputable def Its(ls:List Nat):It:=⟨λi _=>i<ls.length,λi H x H'=>H'=H/\∃c,ls[i]?=some c/\x=.str ⟨#[c]⟩,λi _=>ls.length<=i⟩
theorem Qf1{P:Program}{w:World}{K:Frag}(it:Addr)(x:Str)(t:Tok):Turn P w K tg (Its x.cps.toList) [it] it (λi h=>h.IsStrIter it "str_ascii_iterator" x t i) where
 mem:=by simp
 obj:=λi h st b hb=>by
  have e:b=it:=by simpa using hb
  subst e
  obtain⟨o,eo,c,d⟩:=st
  exact⟨o,eo,λv z=>by rw[d]at z;cases z⟩
 keep:=λi h h' st k=>by
  obtain⟨o,eo,r⟩:=st
  exact⟨o,k it (by simp) o eo,r⟩
 item:=by
  intro X hP hw hK hc i pins s σ H E I hf st hg
  subst hP hw hK
  obtain⟨f0,f1,f2,f3,f4,f5⟩:=hf it (by simp)
  have hg':i<x.cps.toList.length:=hg
  have hx:x.cps[i]?=some (x.cps.toList[i]):=by
   rw[<-WE];exact Ue hg'
  refine wpAny_pyNext_ascii_item st hx λh' st' sb=>?_
  have I1:Inv X pins σ H {s with heap:=h',toks:=s.toks+1}:=I.turned (λb o hb e=>sb.extBut b o hb e) f0 f1 f3 f4 f5
  obtain⟨o,eo,c,d⟩:=id st'
  exact⟨_,rfl,Qft (s:={s with heap:=h',toks:=s.toks+1}) eo c d (by decide) ⟨.str ⟨#[x.cps.toList[i]]⟩,H,I1,⟨_,rfl⟩,⟨rfl,_,Ue hg',rfl⟩,st',λb hb=>(hf b hb).1⟩⟩
 done:=by
  intro X hP hw hK hc i pins s σ H E I hf st hg
  subst hP hw hK
  obtain⟨f0,f1,f2,f3,f4,f5⟩:=hf it (by simp)
  have hg':x.cps.toList.length<=i:=hg
  exact wpAny_pyNext_ascii_end (I.ok.hd hc) st (by rw[<-WE];exact Ta hg') λh' eb=>⟨rfl,I.turned (t':=s.toks) (λb o hb e=>eb b o hb e) f0 f1 f3 f4 f5⟩
 self:=λ_ _ _ _ _ st h=>wpAny_pyIter_striter_ascii st h
theorem QiZ{te:TE}(he:PE X e te):PI X tg e (λσ H R=>te σ H λv H1=>∃s:Str,v=.str s/\s.cps.all (· < 128)=true/\R (Its s.cps.toList) H1):=by
 intro pins s σ H R I h
 refine thn (he pins s σ H _ I h) λv s1 ⟨x,H1,I1,r1,q1⟩=>?_
 obtain⟨z,rfl,ha,q⟩:=q1
 obtain⟨t,rfl⟩:=r1
 refine wpAny_pyIter_ascii ha ?_
 refine⟨s1.heap.objs.size,[s1.heap.objs.size],_,_,H1,rfl,I1.kept (t':=s1.toks) λb o e=>Ub _ e,Qf1 _ z t,⟨_,Ur _ rfl,rfl,rfl⟩,λb hb=>?_,q⟩
 have e:b=s1.heap.objs.size:=by simpa using hb
 subst e
 exact I1.fpOk (Ul _) (I1.hok.fresh (Ul _))
theorem Qhu(K:Frag)(μ:List Addr)(H:Hp)(s:Str):Sim K ca μ H ⟨λ_ i=>some (s.cps.toList[i]?.map λc=>.str ⟨#[c]⟩),s.length⟩ (Its s.cps.toList):=by
 intro i H1 μ1 g1 e r
 dsimp only
 cases h:s.cps.toList[i]? with
 |none=>exact UZ.mp h
 |some c =>
  refine⟨(Ui.mp h).1,λx H' y=>?_⟩
  obtain⟨rfl,c',h',rfl⟩:=y
  rw[h]at h'
  cases h'
  exact⟨.refl,r,.str _⟩
theorem Qhv(he:PE3 ca X e me):PI3 ca X tg e (JT me) :=
 λpn Φ=>JM (QiZ (X:=xat X ca pn Φ) (he pn Φ)) λσ H R hQ=>by
  obtain⟨σ3,g,μ,Rp,q⟩:=hQ
  refine⟨σ3,g,μ,Rp,?_⟩
  unfold JT at q
  cases hm1:me σ3 g with
  |raise _ _=>rw[hm1]at q;exact q
  |stuck=>rw[hm1]at q;exact q.elim
  |ok d g1 =>
   rw[hm1,Res.bind_ok]at q
   intro v H1 μ1 ex r1 q1
   cases q1 with
   |str s =>
    dsimp only at q
    by_cases z:s.cps.toList.all (λc=>decide (c<128))=true/\s.length<=SZ
    ·rw[Uf z]at q
     exact⟨s,rfl,by rw[<-Array.all_toList];exact z.1,q _ H1 μ1 ex r1 (Qhu X.K μ1 H1 s)⟩
    ·rw[Uh z]at q;exact q.elim
   |_=>exact q.elim
theorem QeS:CallR X (.type "int") (λxs H Q=>∃x:Str,xs=[.str x]/\x.cps.toList.all (λc=>decide (48<=c/\c<=57))=true/\1<=x.length/\x.length<=60/\Q (.int (dval x.cps.toList:Nat)) H):=by
 intro pins s σ H xs us Q I rv h
 obtain⟨x,rfl,ha,h0,h1,q⟩:=h
 obtain⟨u,rfl,t,rfl⟩:=rv.one
 have hd:NumText.AllDigits x.cps.toList:=λc hc=>U5 (Ux.mp ha c hc)
 have hne:x.cps.toList≠[]:=λz=>by
  have:x.cps.toList.length=x.length:=Tk
  rw[z]at this;simp at this;omega
 refine PySem.W.KIN.call_text (PySem.intText_digits hd hne (Uo h1 (by decide))) (Uo h1 (by decide)) ⟨.int (dval x.cps.toList:Nat),H,I.tok _,⟨_,rfl⟩,q⟩
theorem QgD(hm:X.mg "int" = none)(he:PE3 ca X e me)(hg:Gl X "int":=by rfl)(hs:starEach [e] X.env=[(false,eval e X.env)]:=by rfl)(hpl:(backTo pos (starEach [] X.env)).any (·.1)=false:=by rfl):
  PE3 ca X (.Call (.Name "int" p) [e] [] pos) (mOp1 Qds me) :=
 r_ty (λ_ _=>QeS) hm boot_int (λΦ σ H μ g y d Q r q pp=>by
  unfold Qds at pp
  cases q with
  |str s =>
   dsimp only at pp
   by_cases z:s.cps.toList.all (λc=>decide (48<=c/\c<=57))=true/\1<=s.length/\s.length<=60
   ·rw[Uf z]at pp
    exact⟨s,rfl,z.1,z.2.1,z.2.2,pp _ H μ .refl r (.int _)⟩
   ·rw[Uh z]at pp;exact pp.elim
  |_=>exact pp.elim) he hg (by decide) (by decide) hs hpl
end
structure OwnC(K:Frag)(ca:Nat->Addr)(c:Nat):Prop where
 cl:Cls K (ca c)
 ha:findIn K (.ref (ca c)) "__class__" = some (some (.builtin "object.__class__"))
 hn:specialIn K (.builtin "object.__class__") "__get__" = some (some (.builtin "getset_descriptor.__get__"))
 tk:takesIn K (.builtin "object.__class__")=some true
 mr:mroIn K (ca c) (.type "object")=some true
noncomputable def ownB(K:Frag)(ca:Nat->Addr)(c:Nat):Bool:=clsB K (ca c) && (findIn K (.ref (ca c)) "__class__" == some (some (.builtin "object.__class__"))) && (specialIn K (.builtin "object.__class__") "__get__" == some (some (.builtin "getset_descriptor.__get__"))) &&
 (takesIn K (.builtin "object.__class__") == some true) && (mroIn K (ca c) (.type "object") == some true)
theorem Qi0{K:Frag}{ca:Nat->Addr}{c:Nat}(h:ownB K ca c=true):OwnC K ca c:=by
 unfold ownB at h
 simp only[UC,UT]at h
 obtain⟨⟨⟨⟨h1,h2⟩,h3⟩,h4⟩,h5⟩:=h
 exact⟨Qgy h1,h2,h3,h4,h5⟩
section
variable{X:Cx}{ca:Nat->Addr}{e:Expr}{me:ME}{pos p p2:Pos}{c:Nat}
theorem Qdu(h:OwnC X.K ca c):CallR X (.builtin "isinstance") (λxs H Q=>∃(a dx:Addr)(fs:List (Str×V)),xs=[V.ref a,V.ref (ca c)]/\H a=some (.ins (ca c) dx fs)/\Q (.bl true) H):=by
 intro pins s σ H xs us Q I rv z
 obtain⟨a,dx,fs,rfl,hH,q⟩:=z
 obtain⟨v,v2,rfl,rx,r2⟩:=rv.two
 cases r2
 refine Zy (t:=.ref (ca c)) (b:=true) I rx (.ins hH h.cl h.ha h.hn h.tk h.mr) ?_ λtk=>⟨.bl true,H,I.tok tk,rfl,q⟩
 unfold kitOne
 rw[Uf (by simp)]
theorem Qhw{x:Str}(hi:X.mg "isinstance" = none)(hC:X.mg x=some (.ref (ca c))/\OwnC X.K ca c)(he:PE3 ca X e me)(hgi:Gl X "isinstance":=by rfl)(hg:Gl X x:=by rfl)(hdb:(x == ("__debug__" : Str))=false:=by decide)(hs:starEach [e,.Name x p2] X.env=(false,eval e X.env)::starEach [.Name x p2] X.env:=by rfl)(hs2:starEach [.Name x p2] X.env=(false,eval (.Name x p2) X.env)::starEach [] X.env:=by rfl)(hpl:(backTo pos (starEach [.Name x p2] X.env)).any (·.1)=false:=by rfl):
  PE3 ca X (.Call (.Name "isinstance" p) [e,.Name x p2] [] pos) (mOp1 (QcX c) me):=λpn Φ =>
 QS (Z4 (X:=xat X ca pn Φ) (Qdu (X:=xat X ca pn Φ) (ca:=ca) hC.2) hgi hi Rk (Q6 (X:=xat X ca pn Φ) (he pn Φ) (Q6 (X:=xat X ca pn Φ) (JB (X:=xat X ca pn Φ) (v:=.ref (ca c)) hg hC.1 rfl hdb) YN hs2) hs) (by decide) (by decide) hs hpl) λσ H Q h=>by
  obtain⟨σ3,g,μ,R,q⟩:=h
  refine QJ (Yc R q) λy H1 ⟨d,g1,μ1,e1,R1,q1,p1⟩=>?_
  unfold QcX at p1
  cases q1 with
  |@ref n a hn =>
   dsimp only at p1
   cases hgn:g1[n]? with
   |none=>rw[hgn]at p1;exact p1.elim
   |some ob =>
    rw[hgn]at p1
    obtain⟨a',ha',orp⟩:=R1.g.addr hgn
    rw[hn]at ha';cases ha'
    cases ob with
    |ins k fs =>
     dsimp only at p1
     by_cases z:k=c
     ·rw[Uf z]at p1
      subst z
      obtain⟨dx,fv,hH,_⟩:=orp
      exact⟨a,dx,fv,rfl,hH,p1 _ H1 μ1 .refl R1.g (.bl _)⟩
     ·rw[Uh z]at p1;exact p1.elim
    |_=>exact p1.elim
  |_=>exact p1.elim
end
end L3
namespace L3
open PySem
def cP(i j:Int):Prop:=0<=j/\j<=1000/\i.natAbs<1000000
noncomputable instance (i j:Int):Decidable (cP i j):=inferInstanceAs (Decidable (_/\_/\_))
noncomputable def pPow(x y:D)(g:G):Res D:=match x,y with
 |.int i,.int j=>if cP i j then .ok (.int (i^j.toNat)) g else .stuck
 |_,_=>.stuck
end L3
namespace L3
open PySem PySem.Spec PyProof.Rows L2
section
variable{X:Cx}{ca:Nat->Addr}{e:Expr}{me:ME}{pos p p2 tp:Pos}{all cs:List Nat}
theorem Qhx{h:Heap}{a:Addr}{xs:Array Value}(p:IsTup h a xs):∃dd n sl,h.get? a=some ⟨.type "tuple",dd,.seq xs n,sl⟩:=by
 obtain⟨⟨cls,dd,data,sl⟩,h1,h2,n,h3⟩:=p
 simp only at h2 h3
 subst h2 h3
 exact⟨dd,n,sl,h1⟩
structure NamesX(X:Cx)(ca:Nat->Addr)(es:List Expr)(us:List V)(Ts:List Value)(all cs:List Nat):Prop where
 pa:∀pn Φ,PA (xat X ca pn Φ) es (λ_ H Q=>Q us H)
 vs:∀its,Vals us its->its=Ts
 ex:∀c∈all,ExK X.K (ca c)
 an:∀c∈all,kitAny X.K (.ref (ca c)) Ts=some (decide (c∈cs))
 no:kitAny X.K (.type "NoneType") Ts=some false
 ln:us.length<=100
theorem Qi1{x:Str}{C:Addr}(hC:X.mg x=some (.ref C)/\IsX X.K ca (.ref C) all cs)(hg:Gl X x:=by rfl)(hdb:(x == ("__debug__" : Str))=false:=by decide)(hs:starEach [.Name x p2] X.env=(false,eval (.Name x p2) X.env)::starEach [] X.env:=by rfl):NamesX X ca [.Name x p2] [.ref C] [.ref C] all cs where
 pa:=λpn Φ=>Q6 (X:=xat X ca pn Φ) (JB (X:=xat X ca pn Φ) (v:=.ref C) hg hC.1 rfl hdb) YN hs
 vs:=λits h=>by cases h with|cons h1 h2=>cases h2;cases h1;rfl
 ex:=hC.2.ex
 an:=λc hc=>by unfold kitAny;rw[hC.2.an c hc];cases decide (c∈cs) <;> rfl
 no:=by unfold kitAny;rw[hC.2.no];rfl
 ln:=by simp
theorem YG{x:Str}{C:Addr}{es:List Expr}{us:List V}{Ts:List Value}{cs2:List Nat}(hC:X.mg x=some (.ref C)/\IsX X.K ca (.ref C) all cs)(hr:NamesX X ca es us Ts all cs2)(hl:us.length<=50:=by simp)(hg:Gl X x:=by rfl)(hdb:(x == ("__debug__" : Str))=false:=by decide)(hs:starEach (.Name x p2::es) X.env=(false,eval (.Name x p2) X.env)::starEach es X.env:=by rfl):NamesX X ca (.Name x p2::es) (.ref C::us) (.ref C::Ts) all (cs++cs2) where
 pa:=λpn Φ=>Q6 (X:=xat X ca pn Φ) (JB (X:=xat X ca pn Φ) (v:=.ref C) hg hC.1 rfl hdb) (hr.pa pn Φ) hs
 vs:=λits h=>by cases h with|cons h1 h2=>cases h1;rw[hr.vs _ h2]
 ex:=hC.2.ex
 an:=λc hc=>by
  unfold kitAny
  rw[hC.2.an c hc]
  by_cases h:c∈cs
  ·rw[UL h,UL (UY _ h)]
  ·rw[Uw h]
   dsimp only
   rw[hr.an c hc]
   have:(c∈cs2)↔(c∈cs++cs2):=⟨λz=>Uu _ z,λz=>(UB.mp z).resolve_left h⟩
   rw[decide_eq_decide.mpr this]
 no:=by unfold kitAny;rw[hC.2.no];exact hr.no
 ln:=by rw[Uz];omega
theorem Qcf{us:List V}{Ts:List Value}{es:List Expr}(N:NamesX X ca es us Ts all cs):CallR X (.builtin "isinstance") (λxs H Q=>∃x q g μ d b,xs=[x,.ref q]/\SqT X.K H q us/\GRep X.K ca μ H g/\Den X.K μ H x d/\Q5 all cs d g=.ok (.bl b) g/\Q (.bl b) H):=by
 intro pins s σ H xs ws Q I rv z
 obtain⟨x,q,g,μ,d,b,rfl,hq,r,qd,ht,qq⟩:=z
 obtain⟨v,v2,rfl,rx,r2⟩:=rv.two
 cases r2
 obtain⟨its,r1,p1,_⟩:=I.tuple hq
 have e1:=N.vs _ r1
 subst e1
 obtain⟨dd,n,sl,ho⟩:=Qhx p1
 have fin:∀tk,EP X pins σ Q (.bool b) {s with toks:=tk}:=λtk=>⟨.bl _,H,I.tok tk,rfl,qq⟩
 cases qd with
 |non=>cases ht;cases (show v=Value.none from rx);exact kia_tup kitx_none I.kIn True.intro ho N.no (λz=>nomatch z) fin
 |@ref n a hn =>
  unfold Q5 at ht
  dsimp only at ht
  cases hg:g[n]? with
  |none=>rw[hg]at ht;cases ht
  |some o =>
   rw[hg]at ht
   obtain⟨a',ha',ob⟩:=r.addr hg
   rw[hn]at ha';cases ha'
   cases o with
   |exc ex =>
    dsimp only at ht
    by_cases hm:ex.1∈all
    ·rw[Uf hm]at ht
     cases ht
     cases rx
     obtain⟨dd,ob,hL⟩:=ob
     obtain⟨⟨o,vs,h1,h2,h3⟩,_⟩:=I.hok a _ ob
     obtain⟨od,h1⟩:=QcP I.hok h1 h2 h3 hL
     exact kia_tup (QcR (N.ex _ hm)) I.kIn ⟨o,od,h1⟩ ho (N.an _ hm) (λz=>nomatch z) fin
    ·rw[Uh hm]at ht;cases ht
   |_=>cases ht
 |_=>cases ht
theorem Qf2{k:Nat}{us:List V}{Ts:List Value}{es:List Expr}{cs':List Nat}(hi:X.mg "isinstance" = none)(N:NamesX X ca es us Ts all cs')(he:PE3 ca X e me)(hcs:∀c∈all,(c∈cs'↔c∈cs):=by decide)(hgi:Gl X "isinstance":=by rfl)(hs:starEach [e,.Tuple es k tp] X.env=(false,eval e X.env)::starEach [.Tuple es k tp] X.env:=by rfl)(hs2:starEach [.Tuple es k tp] X.env=(false,eval (.Tuple es k tp) X.env)::starEach [] X.env:=by rfl)(hpl:(backTo pos (starEach [.Tuple es k tp] X.env)).any (·.1)=false:=by rfl):
  PE3 ca X (.Call (.Name "isinstance" p) [e,.Tuple es k tp] [] pos) (mOp1 (Q5 all cs) me):=λpn Φ=>by
 have N':NamesX X ca es us Ts all cs:=⟨N.pa,N.vs,N.ex,λc hc=>by rw[N.an c hc,decide_eq_decide.mpr (hcs c hc)],N.no,N.ln⟩
 have N2:NamesX (xat X ca pn Φ) ca es us Ts all cs:=⟨λpn' Φ'=>N'.pa pn' Φ',N'.vs,N'.ex,N'.an,N'.no,N'.ln⟩
 refine QS (Z4 (X:=xat X ca pn Φ) (Qcf N2) hgi hi Rk (Q6 (X:=xat X ca pn Φ) (he pn Φ) (Q6 (X:=xat X ca pn Φ) (Qgp (X:=xat X ca pn Φ) (N'.pa pn Φ)) YN hs2) hs) (by decide) (by decide) hs hpl) λσ H Q h=>?_
 obtain⟨σ3,g,μ,R,q⟩:=h
 refine QJ (Yc R q) λy H1 ⟨d,g1,μ1,e1,R1,q1,p1⟩=>?_
 have:∃b,Q5 all cs d g1=.ok (.bl b) g1:=by
  unfold Q5 at p1 ⊢
  cases d with
  |non=>exact⟨false,rfl⟩
  |ref n =>
   dsimp only at p1 ⊢
   cases hg:g1[n]? with
   |none=>rw[hg]at p1;exact p1.elim
   |some o =>
    rw[hg]at p1
    cases o with
    |exc ex =>
     dsimp only at p1 ⊢
     by_cases hm:ex.1∈all
     ·rw[Uf hm];exact⟨_,rfl⟩
     ·rw[Uh hm]at p1;exact p1.elim
    |_=>exact p1.elim
  |_=>exact p1.elim
 obtain⟨b,hb⟩:=this
 rw[hb]at p1
 exact⟨Uo N.ln (Uo (by decide:100<=SZ) ZD),λq hq=>⟨y,q,g1,μ1,d,b,rfl,.of Ql,R1.g.new hq,q1.mono (QD hq),hb,p1 _ _ μ1 (QD hq) (R1.g.new hq) (.bl _)⟩⟩
end
section
variable{X:Cx}{ca:Nat->Addr}{a b e o i:Expr}{ma mb me mo mi:ME}{pos p p2 apos:Pos}{k:Nat}
noncomputable def Qhy:V->List V->Hp->VK->Prop:=λx vs H Q=>∃l xs k y,x=.ref l/\vs=[.int ((k:Nat):Int),y]/\H l=some (.lst xs)/\k<=xs.length/\xs.length<sizeLine/\Q .non (upd H l (.lst (insL xs k y)))
theorem QeT:MtM X "list.insert" Qhy:=by
 intro pins s σ H x vs v us Q I rx rv h
 obtain⟨l,xs,k,y,rfl,rfl,hH,hk,hz,q⟩:=h
 cases rx
 obtain⟨u,w',rfl,⟨t,rfl⟩,rw'⟩:=QgU rv
 obtain⟨z,its,n,r,hl,e⟩:=I.lstM hH
 have hz2:xs.length<16777216:=by rw[<-Tc];exact hz
 have hf:Builtin.List.listFitsIndex ((k:Nat):Int)=true:=fitsIndex_both (by omega) (by omega)
 have hs0:its.toArray.size<=sizeLine:=by rw[Us,<-hl];exact TV hz
 have hc0:¬(!Builtin.List.listFitsIndex ((k:Nat):Int))=true:=by rw[hf];decide
 have M:=@PySem.AutoSeq1.list_insert_list_int_val_1 l its.toArray n ((k:Nat):Int) t w' hc0 hs0
 refine RH Wl ⟨_,e,rfl⟩ PySem.F.entry_list_insert (PySem.F.args_list_insert_3 (.ref l) (.int ((k:Nat):Int) t) w') (by assumption) ?_
 refine⟨e,?_⟩
 refine⟨.non,_,I.lset (its':=insL its k w') hH e ?_ ((r.take k).append (.cons rw' (r.drop k))) ?_,rfl,q⟩
 ·show((its.toArray.extract 0 (if ((k:Nat):Int)<0 then (((k:Nat):Int)+((its.toArray.size:Nat):Int)).toNat else min ((k:Nat):Int).toNat its.toArray.size)).push w'++its.toArray.extract (if ((k:Nat):Int)<0 then (((k:Nat):Int)+((its.toArray.size:Nat):Int)).toNat else min ((k:Nat):Int).toNat its.toArray.size))=_
  rw[Uh (by omega),UX,Us,Wz (by omega)]
  apply Array.toList_inj.mp
  simp[insL]
  exact Rw (by simp)
 ·rw[UD,Uz,U3,Td]
  omega
theorem Dens.insL{K:Frag}{μ:List Addr}{H:Hp}{vs:List V}{ds:List D}{v:V}{d:D}(h:Dens K μ H vs ds)(hd:Den K μ H v d)(k:Nat):Dens K μ H (L3.insL vs k v) (L3.insL ds k d):=(h.take k).append (.cons hd (h.drop k))
theorem Qf3(ho:PE3 ca X o mo)(hi:PE3 ca X i mi)(he:PE3 ca X e me)(hbase:attributeBase o "insert" X.env (eval o X.env)=eval o X.env:=by rfl)(hfew:((backTo pos (starEach [i,e] X.env)).all (λx=>!x.1) && (backToKw pos (keywordEach [] X.env)).all (λx=>x.1.isSome) && decide ([i,e].length+([]:List Keyword).length+(if ([]:List Keyword).isEmpty then 0 else 1)<30))=true:=by rfl)(hline:(apos.endLine == pos.line)=true:=by rfl)(hs:starEach [i,e] X.env=(false,eval i X.env)::starEach [e] X.env:=by rfl)(hs2:starEach [e] X.env=(false,eval e X.env)::starEach [] X.env:=by rfl)(hplain:(backTo pos (starEach [e] X.env)).any (·.1)=false:=by rfl):
  PE3 ca X (.Call (.Attribute o "insert" apos) [i,e] [] pos) (QaS mo mi me) :=
 λpn Φ=>QS (Qg3 (X:=xat X ca pn Φ) Wo Wl PySem.F.type_list_insert QeT (ho pn Φ) (ZY hi (ZY he Qp hs2) hs pn Φ) hbase hfew hline hs hplain) λσ H Q ⟨σ3,g,μ,R,q⟩=>QJ (Yc R q) λx H1 hQ=>by
  obtain⟨d,g1,μ1,e1,R1,q1,p1⟩:=hQ
  cases q1 with
  |@ref n t hn =>
   dsimp only at p1
   cases hgn:g1[n]? with
   |none=>rw[hgn]at p1;exact p1.elim
   |some ob =>
    rw[hgn]at p1
    obtain⟨t',ht',orp⟩:=R1.g.addr hgn
    rw[hn]at ht';cases ht'
    cases ob with
    |lst ds0 =>
     obtain⟨vs0,hH0,_⟩:=orp
     dsimp only at p1
     refine⟨.inl ⟨rfl,_,.of hH0⟩,σ3,g1,μ1,R1,?_⟩
     unfold Qa mNil
     cases hmi:mi σ3 g1 with
     |raise _ _=>rw[hmi]at p1;exact p1
     |stuck=>rw[hmi]at p1;exact p1.elim
     |ok z g2 =>
      rw[hmi,Res.bind_ok]at p1
      rw[Res.bind_ok]
      cases hm:me σ3 g2 with
      |raise _ _=>rw[hm]at p1;exact p1
      |stuck=>rw[hm]at p1;exact p1.elim
      |ok y g3 =>
       rw[hm,Res.bind_ok]at p1
       rw[Res.bind_ok,Res.bind_ok,Res.bind_ok]
       intro vs H2 μ2 e2 r2 q2
       cases q2 with
       |@cons vz _ _ _ hz1 hz2 =>
        cases hz2 with
        |@cons vy _ _ _ h1 h2 =>
         cases h2
         cases hg2:g3[n]? with
         |none=>rw[hg2]at p1;cases z <;> exact p1.elim
         |some ob2 =>
          rw[hg2]at p1
          obtain⟨t',ht',orp⟩:=r2.addr hg2
          rw[e2.at hn]at ht';cases ht'
          cases hz1 with
          |int kk =>
           cases ob2 with
           |lst ds =>
            obtain⟨ws,hH,qs⟩:=orp
            dsimp only at p1
            by_cases zz:0<=kk/\kk<=ds.length/\ds.length<SZ
            ·rw[Uf zz]at p1
             have ek:((kk.toNat:Nat):Int)=kk:=by omega
             have ex:Ext X.K μ2 H2 μ2 (upd H2 t (.lst (L3.insL ws kk.toNat vy))):=JI hH (by intro _ z;cases z) (by intro _ _ z;cases z)
             refine⟨t,ws,kk.toNat,vy,rfl,by rw[ek],hH,by rw[qs.length];omega,by rw[qs.length];exact Uv zz.2.2 ZD,p1 _ _ μ2 (e2.trans ex) ?_ .non⟩
             exact r2.set (e2.at hn) hH (by intro _ z;cases z) (by intro _ _ z;cases z) ⟨_,Ql,Dens.insL (qs.mono ex) (h1.mono ex) _⟩
            ·rw[Uh zz]at p1;exact p1.elim
           |_=>exact p1.elim
          |_=>exact p1.elim
    |_=>exact p1.elim
  |_=>exact p1.elim
end
theorem Qi2{X:Cx}{ca:Nat->Addr}{a b:Expr}{ma mb:ME}{pos:Pos}(ha:PE3 ca X a ma)(hb:PE3 ca X b mb):PE3 ca X (.BinOp a .Pow b pos) (mOp2 pPow ma mb) :=
 Qdj (λ_ _=>Qie) (Qca (λΦ σ i j g Q H μ r p=>by
  unfold pPow at p
  by_cases z:cP i j
  ·dsimp only at p;rw[Uf z]at p;exact⟨⟨z.1,Int.le_trans z.2.1 (by decide),Uv z.2.2 (by decide)⟩,p _ H μ .refl r (.int _)⟩
  ·dsimp only at p;rw[Uh z]at p;exact p.elim) (YW λx y g=>by cases x <;> cases y <;> first|exact .inl ⟨_,_,rfl,rfl⟩|exact .inr rfl)) ha hb
end L3
namespace L3
open PySem
noncomputable def Qdv:MS:=(mRet (mAnd (mOp1 (Yg .int) (mVar 0)) (mNot (mOp1 (Yg .bool) (mVar 0)))))
noncomputable def Yu:MF:=mDef 1 0 Qdv
noncomputable def Qdw:MS:=(mRet (mAnd (Qn Yu (Qa (mVar 0) mNil)) (Yz pLe pLt (mLit (.int 0)) (mVar 0) (mVar 1))))
noncomputable def Ze:MF:=mDef 2 0 Qdw
noncomputable def Qdx:MS:=(mSeq (mIf (Qk (mOp2 pIs (mVar 0) (mLit .non))) (mRet (mLit (.bl true))) QO)
 (mSeq (mIf (mOrT (Zl (Qk (mOp1 (Yg .tuple) (mVar 0)))) (Qk (mOp2 pNe (mOp1 pLen (mVar 0)) (mLit (.int 3))))) (mRet (mLit (.bl false))) QO)
 (mRet (mAnd (Qn Ze (Qa (mOp2 pIx (mVar 0) (mLit (.int 0))) (Qa (mVar 2) mNil))) (mAnd (mOp2 (pIn false) (mOp2 pIx (mVar 0) (mLit (.int 1))) (mOpA pTup (Qa (mLit (.str "l")) (Qa (mLit (.str "r")) mNil)))) (Qn Ze (Qa (mOp2 pIx (mVar 0) (mLit (.int 2))) (Qa (mVar 1) mNil))))))))
noncomputable def ZL:MF:=mDef 3 0 Qdx
noncomputable def QQ:MS:=(mSeq (mIf (Qk (mOp2 pNe (mOp1 pLen (mVar 3)) (mVar 2))) (YQ 1 (Qa (mLit (.str "each state has one entry for each sign")) mNil)) QO)
 (mIf (Zl (Qk (mOp1 pAll (Zm (Qt (mVar 3)) 1 [1,2] (gSet 0) QP (Qn ZL (Qa (mVar 0) (Qa (mVar 1) (Qa (mVar 2) mNil)))))))) (YQ 1 (Qa (mLit (.str "an entry is None or a tuple of a sign, a way and a state of the machine")) mNil)) QO))
noncomputable def Zf:MS:=(mSeq (mIf (Qk (mOp2 pEq (mOp1 pLen (mVar 0)) (mLit (.int 0)))) (YQ 1 (Qa (mLit (.str "a machine has at least one state")) mNil)) QO)
 (mSeq (mAsg (gSet 1) (mOp1 pLen (mVar 0)))
 (mSeq (mAsg (gSet 2) (mOp1 pLen (mOp2 pIx (mVar 0) (mLit (.int 0)))))
 (mSeq (mIf (Qk (mOp2 pEq (mVar 2) (mLit (.int 0)))) (YQ 1 (Qa (mLit (.str "a machine has at least one sign")) mNil)) QO)
 (mFor (Qt (mVar 0)) (gSet 3) QQ)))))
noncomputable def Zg:MF:=mDef 1 3 Zf
noncomputable def YA:MS:=(mSeq (mAsg (gSet 2) (mOp1 ZF (Zm (Qt (mVar 1)) 1 [] (gSet 0) QP (mOp1 ZF (mVar 0)))))
 (mSeq (YO (Qn Zg (Qa (mVar 2) mNil)))
 (Jt [11] "table" (mVar 0) (mVar 2))))
noncomputable def Zb:MF:=mDef 2 1 YA
noncomputable def YH:MS:=(mSeq (mIf (Zl (Qk (mOp1 pAll (Zm (JT (mVar 0)) 1 [] (gSet 0) QP (mOp2 pInS (mVar 0) (mLit (.str "0123456789"))))))) (mRet (mLit (.bl false))) QO)
 (mRet (mAnd (Yz pLe pLe (mLit (.int 1)) (mOp1 pLen (mVar 0)) (mLit (.int 60))) (mOr (mOp2 pEq (mVar 0) (mLit (.str "0"))) (mOp2 pNe (mOp2 pIx (mVar 0) (mLit (.int 0))) (mLit (.str "0")))))))
noncomputable def Q2:MF:=mDef 1 0 YH
noncomputable def QG:MS:=(mSeq (mAsg (gSet 2) (mSM Zs (mVar 0) (mVar 1)))
 (mIf (ZC (Qk (Qn Q2 (Qa (mOp2 pIx (mVar 2) (mLit (.int 0))) mNil))) (Qk (Qn Q2 (Qa (mOp2 pIx (mVar 2) (mLit (.int 2))) mNil)))) (mRet (mOpA pTup (Qa (mOp1 Qds (mOp2 pIx (mVar 2) (mLit (.int 0)))) (Qa (mVar 1) (Qa (mOp1 Qds (mOp2 pIx (mVar 2) (mLit (.int 2)))) mNil))))) QO))
noncomputable def Zt:MS:=(mSeq (mFor (Qt (mOpA pTup (Qa (mLit (.str "l")) (Qa (mLit (.str "r")) mNil)))) (gSet 1) QG)
 (mRet (mLit .non)))
noncomputable def Zu:MF:=mDef 1 2 Zt
noncomputable def QbE:MS:=(mRet (mOr (mOp2 pEq (mVar 0) (mLit (.str "-"))) (mOp2 Qd8 (Qn Zu (Qa (mVar 0) mNil)) (mLit .non))))
noncomputable def QH:MF:=mDef 1 0 QbE
noncomputable def Qdy:MS:=(mRet (Zm (Qt (mVar 0)) 1 [] (gSet 0) QP (Qn Zu (Qa (mVar 0) mNil))))
noncomputable def ZM:MF:=mDef 1 0 Qdy
noncomputable def Qu:MS:=(mIf (mOrT (Qk (mOp2 pNe (mOp1 pLen (mVar 3)) (mOp1 pLen (mOp2 pIx (mVar 1) (mLit (.int 0)))))) (Zl (Qk (mOp1 pAll (Zm (Qt (mVar 3)) 1 [] (gSet 0) QP (Qn QH (Qa (mVar 0) mNil))))))) (Qcd 10 (mVar 2)) QO)
noncomputable def QK:MS:=(mSeq (mAsg (gSet 1) (Zm (Qt (mSM Za (mVar 0) (mLit (.str (Str.ofString "\n"))))) 1 [] (gSet 0) QP (mSM Za (mVar 0) (mLit (.str " ")))))
 (mSeq (mFor (Ym (mVar 1)) (QaF [(gSet 2),(gSet 3)]) Qu)
 (mRet (Qd7 11 Zb (Qa (Zm (Qt (mVar 1)) 1 [] (gSet 0) QP (Qn ZM (Qa (mVar 0) mNil))) mNil)))))
noncomputable def Qq:MF:=mDef 1 3 QK
noncomputable def QaU:MS:=(mSeq (Zz (mVar 1) (mLit (.int 0)) (mOp2 pAdd (mOp2 pIx (mVar 1) (mLit (.int 0))) (mLit (.int 1))))
 (mSeq (mAsg (gSet 2) (mLit (.int 0)))
 (mSeq (mIf (Qk (mOp2 pGt (mOp1 pLen (mVar 0)) (mLit (.int 0)))) (mAsg (gSet 2) (mOp2 pIx (mVar 0) (mOp2 pMod (mOp2 pIx (mVar 1) (mLit (.int 0))) (mOp1 pLen (mVar 0))))) QO)
 (mSeq (mAsg (gSet 3) (mOp2 pMod (mOp2 pMul (mOp2 pAdd (mOp2 pAdd (mOp2 pMod (mVar 2) (mLit (.int 2147483647))) (mOp2 pMul (mOp2 pMul (mOp2 pIx (mVar 1) (mLit (.int 0))) (mOp2 pIx (mVar 1) (mLit (.int 0)))) (mLit (.int 7919)))) (mLit (.int 11))) (mLit (.int 48271))) (mLit (.int 2147483647))))
 (mRet (mOp2 pMod (mOp2 pMul (mVar 3) (mVar 3)) (mLit (.int 1999999973))))))))
noncomputable def QV:MF:=mDef 2 2 QaU
noncomputable def Z7(me:MF):MS:=(mSeq (mIf (Qk (mOp2 pIs (mVar 1) (mLit .non))) (mRet (mOp2 pIs (mVar 0) (mLit .non))) QO)
 (mSeq (mIf (Qk (mOp1 (Yg .dict) (mVar 1))) (mSeq (mIf (mOrT (Zl (Qk (mOp1 (Yg .dict) (mVar 0)))) (Qk (mOp2 pNe (mOp1 pLen (mVar 0)) (mOp1 pLen (mVar 1))))) (mRet (mLit (.bl false))) QO)
 (mRet (mOp1 pAll (Zm (Qt (mVar 1)) 1 [0,1] (gSet 0) QP (mAnd (mOp2 (pIn false) (mVar 0) (mVar 1)) (Qn me (Qa (mOp2 pIx (mVar 1) (mVar 0)) (Qa (mOp2 pIx (mVar 2) (mVar 0)) mNil)))))))) QO)
 (mSeq (mIf (mOrT (Qk (mOp1 (Yg .list) (mVar 1))) (Qk (mOp1 (Yg .tuple) (mVar 1)))) (mSeq (mIf (ZC (Qk (mOp1 (Yg .list) (mVar 1))) (Zl (Qk (mOp1 (Yg .list) (mVar 0))))) (mRet (mLit (.bl false))) QO)
 (mSeq (mIf (mOrT (ZC (Qk (mOp1 (Yg .tuple) (mVar 1))) (Zl (Qk (mOp1 (Yg .tuple) (mVar 0))))) (Qk (mOp2 pNe (mOp1 pLen (mVar 0)) (mOp1 pLen (mVar 1))))) (mRet (mLit (.bl false))) QO)
 (mRet (mOp1 pAll (Zm (Qcz (mVar 0) (mVar 1)) 2 [] (QaF [(gSet 0),(gSet 1)]) QP (Qn me (Qa (mVar 0) (Qa (mVar 1) mNil)))))))) QO)
 (mSeq (mIf (Qk (mOp1 (Yg .str) (mVar 1))) (mRet (mAnd (mOp1 (Yg .str) (mVar 0)) (mOp2 pEq (mVar 0) (mVar 1)))) QO)
 (mRet (mAnd (mOp1 (Yg .int) (mVar 0)) (mAnd (mNot (mOp1 (Yg .bool) (mVar 0))) (mOp2 pEq (mVar 0) (mVar 1)))))))))
noncomputable def QW:Nat->MF
 |0=>λ_ _=>.stuck
 |k+1=>mDef 2 0 (Z7 (QW k))
noncomputable def Q3:MS:=(mSeq (mAsg (gSet 8) (Qn QV (Qa (mVar 0) (Qa (mVar 1) mNil))))
 (mSeq (mAsg (gSet 9) (mOpA pTup (Qa (mOp2 pMod (mOp2 Q7 (mVar 8) (mLit (.int 9))) (mVar 3)) (Qa (mOp2 pIx (mLit (.str "lr")) (mOp2 pMod (mOp2 Q7 (mVar 8) (mLit (.int 100))) (mLit (.int 2)))) (Qa (mOp2 pMod (mOp2 Q7 (mVar 8) (mLit (.int 300))) (mVar 2)) mNil)))))
 (mSeq (mIf (Qk (mOp2 pEq (mOp2 pMod (mVar 8) (mLit (.int 9))) (mLit (.int 0)))) (mAsg (gSet 9) (mLit .non)) QO)
 (YO (Yf (mVar 6) (mVar 9))))))
noncomputable def ZV:MS:=(mSeq (mAsg (gSet 6) (mOpA newL mNil))
 (mSeq (mFor (Q9 (mVar 3)) (gSet 7) Q3)
 (YO (Yf (mVar 4) (mVar 6)))))
noncomputable def JV:MS:=(mSeq (mAsg (gSet 4) (mOpA newL mNil))
 (mSeq (mFor (Q9 (mVar 2)) (gSet 5) ZV)
 (mRet (mVar 4))))
noncomputable def JW:MF:=mDef 4 6 JV
noncomputable def YI:MS:=(mSeq (mAsg (gSet 3) (Zm (Qt (mVar 2)) 1 [] (gSet 0) QP (mIfE (Qk (mOp2 pIs (mVar 0) (mLit .non))) (mLit (.str "-")) (mOp2 pAdd (mOp2 pAdd (mOp1 pStr (mOp2 pIx (mVar 0) (mLit (.int 0)))) (mOp2 pIx (mVar 0) (mLit (.int 1)))) (mOp1 pStr (mOp2 pIx (mVar 0) (mLit (.int 2))))))))
 (YO (Yf (mVar 1) (mSM YF (mLit (.str " ")) (mVar 3)))))
noncomputable def QaV:MS:=(mSeq (mAsg (gSet 1) (mOpA newL mNil))
 (mSeq (mFor (Qt (mVar 0)) (gSet 2) YI)
 (mRet (mSM YF (mLit (.str (Str.ofString "\n"))) (mVar 1)))))
noncomputable def Jx:MF:=mDef 1 3 QaV
noncomputable def Z8:MS:=(mSeq (mTry (mAsg (gSet 1) (mOpA pTup (Qa (mLit (.str "read")) (Qa (Qn Qq (Qa (mVar 0) mNil)) mNil)))) [⟨[0,1,2,3,4,5,6,7,8,9,10],[],some 2,(mAsg (gSet 1) (mOpA pTup (Qa (mLit (.str "no")) (Qa (mVar 2) mNil))))⟩])
 (mSeq (mIf (Qk (mOp2 pEq (mOp2 pIx (mVar 1) (mLit (.int 0))) (mLit (.str "read")))) (mRet (mVar 1)) QO)
 (mSeq (mAsg (gSet 3) (mOp2 pIx (mVar 1) (mLit (.int 1))))
 (mSeq (mIf (Qk (mOp1 (Q5 [0,1,2,3,4,5,6,7,8,9,10] [2,3,4,5,6,7,8,9]) (mVar 3))) (mRet (mOpA pTup (Qa (mLit (.str "other")) (Qa (mLit (.int 0)) mNil)))) QO)
 (mSeq (mIf (ZC (Qk (mOp1 (Q5 [0,1,2,3,4,5,6,7,8,9,10] [10]) (mVar 3))) (ZC (Qk (mOp1 (Q5 [0,1,2,3,4,5,6,7,8,9,10] [0,1,2,3,4,5,6,7,8,9,10]) (mVar 3))) (Zl (Qk (mOp1 (Q5 [0,1,2,3,4,5,6,7,8,9,10] [1]) (mVar 3)))))) (mRet (mOpA pTup (Qa (mLit (.str "text")) (Qa (mOp1 (QfM 10) (mVar 3)) mNil)))) QO)
 (mSeq (mIf (ZC (Qk (mOp1 (Q5 [0,1,2,3,4,5,6,7,8,9,10] [1]) (mVar 3))) (ZC (Qk (mOp1 (Q5 [0,1,2,3,4,5,6,7,8,9,10] [0,1,2,3,4,5,6,7,8,9,10]) (mVar 3))) (Zl (Qk (mOp1 (Q5 [0,1,2,3,4,5,6,7,8,9,10] [10]) (mVar 3)))))) (mRet (mOpA pTup (Qa (mLit (.str "machine")) (Qa (mLit (.int 0)) mNil)))) QO)
 (mRet (mOpA pTup (Qa (mLit (.str "other")) (Qa (mLit (.int 0)) mNil))))))))))
noncomputable def QX:MF:=mDef 1 3 Z8
noncomputable def ZP:MS:=(mSeq (mAsg (gSet 3) (Qn QV (Qa (mVar 0) (Qa (mVar 1) mNil))))
 (mSeq (mAsg (gSet 4) (mSM Za (mVar 2) (mLit (.str " "))))
 (mSeq (mAsg (gSet 5) (mOp2 pMod (mOp2 Q7 (mVar 3) (mLit (.int 9))) (mOp1 pLen (mVar 4))))
 (mSeq (mIf (Qk (mOp2 pEq (mOp2 pMod (mVar 3) (mLit (.int 9))) (mLit (.int 0)))) (mRet (mOp2 pAdd (mVar 2) (mLit (.str " ")))) QO)
 (mSeq (mIf (Qk (mOp2 pEq (mOp2 pMod (mVar 3) (mLit (.int 9))) (mLit (.int 1)))) (mRet (mOp2 pAdd (mLit (.str " ")) (mVar 2))) QO)
 (mSeq (mIf (Qk (mOp2 pEq (mOp2 pMod (mVar 3) (mLit (.int 9))) (mLit (.int 2)))) (mRet (mSM YF (mLit (.str " ")) (mOp2 pAdd (mOp2 pAdd (JH (mVar 4) YD (Qbq (mVar 5))) (mOpA newL (Qa (mLit (.str "")) mNil))) (JH (mVar 4) (Qbq (mVar 5)) YD)))) QO)
 (mSeq (mAsg (gSet 6) (mOpA newL (Qa (mLit (.str "")) (Qa (mLit (.str "--")) (Qa (mLit (.str "r0")) (Qa (mLit (.str "1r")) (Qa (mLit (.str "1")) (Qa (mLit (.str "1x0")) (Qa (mLit (.str "01r0")) (Qa (mLit (.str "1r00")) (Qa (mLit (.str "-1r0")) (Qa (mLit (.str "+1r0")) (Qa (mLit (.str "1R0")) (Qa (mLit (.str "1rr0")) (Qa (mLit (.str "1r0l")) mNil)))))))))))))))
 (mSeq (mAsg (gSet 6) (mOp2 pAdd (mVar 6) (mOpA newL (Qa (mLit (.str "1r-1")) (Qa (mLit (.str "1r0x")) (Qa (mLit (.str "l")) (Qa (mOp2 pAdd (mOp2 pAdd (mLit (.str "1")) (mOp2 pMul (mLit (.str "0")) (mLit (.int 60)))) (mLit (.str "r0"))) (Qa (mOp2 pAdd (mLit (.str "0l1")) (mOp2 pMul (mLit (.str "0")) (mLit (.int 60)))) (Qa (mLit (.str "1.0r0")) (Qa (mLit (.str "0 l")) mNil))))))))))
 (mSeq (Zz (mVar 4) (mVar 5) (mOp2 pIx (mVar 6) (mOp2 pMod (mOp2 Q7 (mVar 3) (mLit (.int 100))) (mLit (.int 20)))))
 (mRet (mSM YF (mLit (.str " ")) (mVar 4))))))))))))
noncomputable def Zd:MF:=mDef 3 4 ZP
noncomputable def ZJ:MS:=(mSeq (mAsg (gSet 3) (Qn QV (Qa (mVar 0) (Qa (mVar 1) mNil))))
 (mSeq (mAsg (gSet 4) (mOp2 pMod (mVar 3) (mOp1 pLen (mVar 2))))
 (mSeq (mAsg (gSet 5) (mOp1 Y9 (mVar 2)))
 (mSeq (mIf (Qk (mOp2 pEq (mOp2 pMod (mOp2 Q7 (mVar 3) (mLit (.int 5))) (mLit (.int 3))) (mLit (.int 0)))) (mRet (mOpA pTup (Qa (mOp2 pAdd (mVar 5) (mOpA newL (Qa (mLit (.str "")) mNil))) (Qa (mOp1 pLen (mVar 2)) mNil)))) QO)
 (mSeq (mIf (Qk (mOp2 pEq (mOp2 pMod (mOp2 Q7 (mVar 3) (mLit (.int 5))) (mLit (.int 3))) (mLit (.int 1)))) (mSeq (Zz (mVar 5) (mVar 4) (mOp2 pAdd (mOp2 pIx (mVar 5) (mVar 4)) (mLit (.str " -"))))
 (mSeq (mIf (ZC (Qk (mOp2 pEq (mVar 4) (mLit (.int 0)))) (Qk (mOp2 pGt (mOp1 pLen (mVar 2)) (mLit (.int 1))))) (mRet (mOpA pTup (Qa (mVar 5) (Qa (mLit (.int 1)) mNil)))) QO)
 (mRet (mOpA pTup (Qa (mOp2 pAdd (mVar 5) (mOpA newL (Qa (mOp2 pAdd (mLit (.str "- -")) (mOp2 pMul (mLit (.str " -")) (mOp1 pLen (mSM Za (mOp2 pIx (mVar 2) (mLit (.int 0))) (mLit (.str " ")))))) mNil))) (Qa (mOp2 QfU (mVar 4) (mLit (.int 1))) mNil)))))) QO)
 (mSeq (YO (QaS (mVar 5) (mVar 4) (mLit (.str ""))))
 (mRet (mOpA pTup (Qa (mVar 5) (Qa (mVar 4) mNil))))))))))
noncomputable def QaW:MF:=mDef 3 3 ZJ
noncomputable def JX:MS:=(mSeq (mAsg (gSet 3) (Qn QV (Qa (mVar 0) (Qa (mVar 1) mNil))))
 (mSeq (mAsg (gSet 4) (Zm (Qt (mVar 2)) 1 [] (gSet 0) QP (mOp1 Y9 (mVar 0))))
 (mSeq (mAsg (gSet 5) (mOp2 pMod (mVar 3) (mOp1 pLen (mVar 4))))
 (mSeq (mAsg (gSet 6) (mOp2 pMod (mOp2 Q7 (mVar 3) (mLit (.int 5))) (mOp1 pLen (mOp2 pIx (mVar 4) (mLit (.int 0))))))
 (mSeq (mAsg (gSet 7) (mOp1 pLen (mOp2 pIx (mVar 4) (mLit (.int 0)))))
 (mSeq (mAsg (gSet 8) (mOp1 pLen (mVar 4)))
 (mSeq (mAsg (gSet 9) (mOp2 pIx (mOpA newL (Qa (mLit (.int 1)) (Qa (mLit (.int 2)) (Qa (mOp2 pPow (mLit (.int 10)) (mLit (.int 9))) (Qa (mOp2 pPow (mLit (.int 10)) (mLit (.int 40))) mNil))))) (mOp2 pMod (mOp2 Q7 (mVar 3) (mLit (.int 100))) (mLit (.int 4)))))
 (mSeq (Zz (mOp2 pIx (mVar 4) (mVar 5)) (mVar 6) (mOp2 pIx (mOpA newL (Qa (mOpA pTup (Qa (mVar 7) (Qa (mLit (.str "l")) (Qa (mLit (.int 0)) mNil)))) (Qa (mOpA pTup (Qa (mLit (.int 0)) (Qa (mLit (.str "r")) (Qa (mVar 8) mNil)))) (Qa (mOpA pTup (Qa (mOp2 pAdd (mOp2 pSub (mVar 7) (mLit (.int 1))) (mVar 9)) (Qa (mLit (.str "r")) (Qa (mLit (.int 0)) mNil)))) (Qa (mOpA pTup (Qa (mLit (.int 0)) (Qa (mLit (.str "l")) (Qa (mOp2 pAdd (mOp2 pSub (mVar 8) (mLit (.int 1))) (mVar 9)) mNil)))) mNil))))) (mOp2 pMod (mOp2 Q7 (mVar 3) (mLit (.int 25))) (mLit (.int 4)))))
 (mRet (mVar 4))))))))))
noncomputable def JY:MF:=mDef 3 7 JX
noncomputable def Qcg:MS:=(mSeq (mAsg (gSet 2) (Qn QV (Qa (mVar 0) (Qa (mVar 1) mNil))))
 (mSeq (mAsg (gSet 3) (Qn JW (Qa (mVar 0) (Qa (mVar 1) (Qa (mOp2 pAdd (mLit (.int 1)) (mOp2 pMod (mVar 2) (mLit (.int 4)))) (Qa (mOp2 pAdd (mLit (.int 1)) (mOp2 pMod (mOp2 Q7 (mVar 2) (mLit (.int 4))) (mLit (.int 4)))) mNil))))))
 (mSeq (mAsg (gSet 4) (Qn Jx (Qa (mVar 3) mNil)))
 (mSeq (mAsg (gSet 5) (mSM Za (mVar 4) (mLit (.str (Str.ofString "\n")))))
 (mSeq (mAsg (gSet 6) (mOp2 pMod (Qn QV (Qa (mVar 0) (Qa (mVar 1) mNil))) (mOp1 pLen (mVar 5))))
 (mSeq (mAsg (gSet 7) (mOp1 Y9 (mVar 5)))
 (mSeq (Zz (mVar 7) (mVar 6) (Qn Zd (Qa (mVar 0) (Qa (mVar 1) (Qa (mOp2 pIx (mVar 5) (mVar 6)) mNil)))))
 (mSeq (mIf (ZC (Qk (mOp2 pEq (mOp2 pMod (mOp2 Q7 (mVar 2) (mLit (.int 16))) (mLit (.int 2))) (mLit (.int 0)))) (Qk (mOp2 pLt (mOp2 pAdd (mVar 6) (mLit (.int 1))) (mOp1 pLen (mVar 5))))) (Zz (mVar 7) (mOp2 pAdd (mVar 6) (mLit (.int 1))) (Qn Zd (Qa (mVar 0) (Qa (mVar 1) (Qa (mOp2 pIx (mVar 5) (mOp2 pAdd (mVar 6) (mLit (.int 1)))) mNil))))) QO)
 (mSeq (mIf (Zl (Qk (Qn (QW 6) (Qa (Qn QX (Qa (mSM YF (mLit (.str (Str.ofString "\n"))) (mVar 7)) mNil)) (Qa (mOpA pTup (Qa (mLit (.str "text")) (Qa (mVar 6) mNil))) mNil))))) (mRet (mLit (.bl false))) QO)
 (mSeq (mAsg (QaF [(gSet 7),(gSet 8)]) (Qn QaW (Qa (mVar 0) (Qa (mVar 1) (Qa (mVar 5) mNil)))))
 (mSeq (mIf (Zl (Qk (Qn (QW 6) (Qa (Qn QX (Qa (mSM YF (mLit (.str (Str.ofString "\n"))) (mVar 7)) mNil)) (Qa (mOpA pTup (Qa (mLit (.str "text")) (Qa (mVar 8) mNil))) mNil))))) (mRet (mLit (.bl false))) QO)
 (mSeq (mAsg (gSet 9) (Qn Jx (Qa (Qn JY (Qa (mVar 0) (Qa (mVar 1) (Qa (mVar 3) mNil)))) mNil)))
 (mSeq (mIf (Zl (Qk (Qn (QW 6) (Qa (Qn QX (Qa (mVar 9) mNil)) (Qa (mOpA pTup (Qa (mLit (.str "machine")) (Qa (mLit (.int 0)) mNil))) mNil))))) (mRet (mLit (.bl false))) QO)
 (mSeq (mIf (mOrT (Zl (Qk (Qn (QW 6) (Qa (Qn QX (Qa (mOp2 pAdd (mVar 9) (mLit (.str (Str.ofString "\n")))) mNil)) (Qa (mOpA pTup (Qa (mLit (.str "text")) (Qa (mOp1 pLen (mVar 5)) mNil))) mNil))))) (Zl (Qk (Qn (QW 6) (Qa (Qn QX (Qa (mLit (.str "")) mNil)) (Qa (mOpA pTup (Qa (mLit (.str "text")) (Qa (mLit (.int 0)) mNil))) mNil)))))) (mRet (mLit (.bl false))) QO)
 (mSeq (mAsg (gSet 10) (Qn QX (Qa (mVar 4) mNil)))
 (mSeq (mIf (mOrT (Qk (mOp2 pNe (mOp2 pIx (mVar 10) (mLit (.int 0))) (mLit (.str "read")))) (Zl (Qk (mOp1 (QcX 11) (mOp2 pIx (mVar 10) (mLit (.int 1))))))) (mRet (mLit (.bl false))) QO)
 (mRet (Qn (QW 6) (Qa (QfA [11] "table" (mOp2 pIx (mVar 10) (mLit (.int 1)))) (Qa (mOp1 ZF (Zm (Qt (mVar 3)) 1 [] (gSet 0) QP (mOp1 ZF (mVar 0)))) mNil))))))))))))))))))))
noncomputable def Qch:MF:=mDef 2 9 Qcg
noncomputable def QaX:MS:=(mIf (Zl (Qk (Qn Qch (Qa (mVar 0) (Qa (mVar 1) mNil))))) (mRet (mLit (.bl false))) QO)
noncomputable def Qhz:MS:=(mSeq (mAsg (gSet 1) (mOpA newL (Qa (mLit (.int 0)) mNil)))
 (mSeq (mFor (Q9 (mOp2 pAdd (mLit (.int 1)) (mOp2 QfT (mLit (.int 5)) (mOp2 Q7 (mOp1 pLen (mVar 0)) (mLit (.int 10)))))) (gSet 2) QaX)
 (mRet (mLit (.bl true)))))
noncomputable def Qf4:MF:=mDef 1 2 Qhz
structure Keeps(S:List Nat)(g g':G):Prop where
 len:g.length<=g'.length
 at':∀n o,n∉S->g[n]?=some o->g'[n]?=some o
theorem Keeps.refl{S:List Nat}{g:G}:Keeps S g g:=⟨Ul _,λ_ _ _ h=>h⟩
theorem Keeps.trans{S:List Nat}{g g1 g2:G}(a:Keeps S g g1)(b:Keeps S g1 g2):Keeps S g g2:=⟨Uo a.len b.len,λn o h e=>b.at' n o h (a.at' n o h e)⟩
theorem Keeps.mono{S T:List Nat}{g g1:G}(a:Keeps S g g1)(h:∀n∈S,n∈T):Keeps T g g1:=⟨a.len,λn o q e=>a.at' n o (λz=>q (h n z)) e⟩
theorem Keeps.all{S:List Nat}{g g1:G}(a:Keeps [] g g1):Keeps S g g1:=a.mono (by simp)
theorem Keeps.push{S:List Nat}{g:G}(o:GO):Keeps S g (g++[o]):=⟨by simp,λn u _ e=>by
 have hl:n<g.length:=(Ui.mp e).1
 rw[UE hl];exact e⟩
theorem Keeps.set{g:G}(n:Nat)(o:GO):Keeps [n] g (g.set n o):=⟨by simp,λm u h e=>by
 rw[Uy (λz=>h (by simp[z]))];exact e⟩
structure KeepsN(k:Nat)(S:List Nat)(g g':G):Prop where
 len:g.length<=g'.length
 at':∀n o,n<k->n∉S->g[n]?=some o->g'[n]?=some o
theorem KeepsN.refl{k:Nat}{S:List Nat}{g:G}:KeepsN k S g g:=⟨Ul _,λ_ _ _ _ h=>h⟩
theorem KeepsN.trans{k:Nat}{S:List Nat}{g g1 g2:G}(a:KeepsN k S g g1)(b:KeepsN k S g1 g2):KeepsN k S g g2:=⟨Uo a.len b.len,λn o l h e=>b.at' n o l h (a.at' n o l h e)⟩
theorem Keeps.n{k:Nat}{S T:List Nat}{g g1:G}(a:Keeps S g g1)(h:∀n∈S,n<k->n∈T):KeepsN k T g g1:=⟨a.len,λn o l q e=>a.at' n o (λz=>q (h n z l)) e⟩
theorem KeepsN.mono{j k:Nat}{S T:List Nat}{g g1:G}(a:KeepsN k S g g1)(hj:j<=k)(h:∀n∈S,n<j->n∈T):KeepsN j T g g1:=⟨a.len,λn o l q e=>a.at' n o (by omega) (λz=>q (h n z l)) e⟩
theorem KeepsN.keeps{S:List Nat}{g g1:G}(a:KeepsN g.length S g g1):Keeps S g g1:=⟨a.len,λn o q e=>a.at' n o (Ui.mp e).1 q e⟩
theorem Qm{g:G}(o:GO):(g++[o])[g.length]?=some o:=by simp
theorem Q0{g:G}{n:Nat}{o:GO}(h:g[n]?=some o):n<g.length:=(Ui.mp h).1
theorem Q8{g:G}{n:Nat}{o u:GO}(h:g[n]?=some o):(g.set n u)[n]?=some u:=by rw[U0 (Q0 h)]
noncomputable def Qf5:Out->Prop
 |.rt _ _=>True
 |.raise _ _ _=>True
 |.stuck=>True
 |_=>False
theorem YX{src:Src}{t:MG}{body:MS}{n:Nat}(I:Nat->S3->G->Prop)(R:Out->Prop)(step:∀i σ g,i<n->I i σ g->∃d σ1,src.at' g i=some (some d)/\t d σ=some σ1/\((∃σ2 g2,(body σ1 g=.nx σ2 g2\/body σ1 g=.ct σ2 g2)/\I (i+1) σ2 g2)\/(Qf5 (body σ1 g)/\R (body σ1 g))))(stop:∀σ g,I n σ g->src.at' g n=some none):∀(f i:Nat)(σ:S3)(g:G),n-i<f->i<=n->I i σ g->(∃σ' g',forL src t body f i σ g=.nx σ' g'/\I n σ' g')\/(Qf5 (forL src t body f i σ g)/\R (forL src t body f i σ g))
 |0,_,_,_,h,_,_=>by omega
 |f+1,i,σ,g,hf,hi,h=>by
  unfold forL
  by_cases e:i=n
  ·subst e
   rw[stop σ g h]
   exact .inl ⟨σ,g,rfl,h⟩
  ·obtain⟨d,σ1,h1,h2,h3⟩:=step i σ g (by omega) h
   rw[h1]
   dsimp only
   rw[h2]
   dsimp only
   rcases h3 with⟨σ2,g2,h3|h3,h4⟩|⟨h3,h4⟩
   ·rw[h3];exact YX I R step stop f (i+1) σ2 g2 (by omega) (by omega) h4
   ·rw[h3];exact YX I R step stop f (i+1) σ2 g2 (by omega) (by omega) h4
   ·cases hb:body σ1 g with
    |rt d g'=>rw[hb]at h4;exact .inr ⟨trivial,h4⟩
    |raise x σ' g'=>rw[hb]at h4;exact .inr ⟨trivial,h4⟩
    |nx _ _=>rw[hb]at h3;exact h3.elim
    |bk _ _=>rw[hb]at h3;exact h3.elim
    |ct _ _=>rw[hb]at h3;exact h3.elim
    |stuck=>rw[hb]at h4;exact .inr ⟨trivial,h4⟩
theorem JZ{t:MG}{body:MS}{lo:Int}{n:Nat}{σ:S3}{g:G}(I:Nat->S3->G->Prop)(h0:I 0 σ g)(step:∀i σ g,i<n->I i σ g->∃σ1 σ2 g2,t (.int (lo+i)) σ=some σ1/\body σ1 g=.nx σ2 g2/\I (i+1) σ2 g2):∃σ' g',forL (Zv lo n) t body (n+1) 0 σ g=.nx σ' g'/\I n σ' g':=by
 have:=YX (src:=Zv lo n) (t:=t) (body:=body) (n:=n) I (λ_=>False) (λi σ g hi h=>by
  obtain⟨σ1,σ2,g2,a,b,c⟩:=step i σ g hi h
  exact⟨.int (lo+i),σ1,by simp[Zv,hi],a,.inl ⟨σ2,g2,.inl b,c⟩⟩) (λσ g _=>by simp[Zv]) (n+1) 0 σ g (by omega) (by omega) h0
 rcases this with h|h
 ·exact h
 ·exact h.2.elim
theorem QbF{t:MG}{body:MS}{ds:List D}{σ:S3}{g:G}(I:Nat->S3->G->Prop)(R:Out->Prop)(h0:I 0 σ g)(step:∀i d σ g,ds[i]?=some d->I i σ g->∃σ1,t d σ=some σ1/\((∃σ2 g2,body σ1 g=.nx σ2 g2/\I (i+1) σ2 g2)\/(Qf5 (body σ1 g)/\R (body σ1 g)))):
  (∃σ' g',forL ⟨λ_ i=>some ds[i]?,ds.length⟩ t body (ds.length+1) 0 σ g=.nx σ' g'/\I ds.length σ' g')\/(Qf5 (forL ⟨λ_ i=>some ds[i]?,ds.length⟩ t body (ds.length+1) 0 σ g)/\R (forL ⟨λ_ i=>some ds[i]?,ds.length⟩ t body (ds.length+1) 0 σ g)) :=
 YX (src:=⟨λ_ i=>some ds[i]?,ds.length⟩) (t:=t) (body:=body) (n:=ds.length) I R (λi σ g hi h=>by
  obtain⟨σ1,a,b⟩:=step i ds[i] σ g (by simp[hi]) h
  refine⟨ds[i],σ1,by simp[hi],a,?_⟩
  rcases b with⟨σ2,g2,b,c⟩|b
  ·exact .inl ⟨σ2,g2,.inl b,c⟩
  ·exact .inr b) (λσ g _=>by simp) (ds.length+1) 0 σ g (by omega) (by omega) h0
theorem QhA{src:Src}{t:MG}{body:MS}{n:Nat}{σ:S3}{g:G}(hn:src.top=n)(I:Nat->S3->G->Prop)(h0:I 0 σ g)(step:∀i σ g,i<n->I i σ g->∃d σ1 σ2 g2,src.at' g i=some (some d)/\t d σ=some σ1/\body σ1 g=.nx σ2 g2/\I (i+1) σ2 g2)(stop:∀σ g,I n σ g->src.at' g n=some none):∃σ' g',forL src t body (src.top+1) 0 σ g=.nx σ' g'/\I n σ' g':=by
 rw[hn]
 have:=YX (src:=src) (t:=t) (body:=body) (n:=n) I (λ_=>False) (λi σ g hi h=>by
  obtain⟨d,σ1,σ2,g2,a,b,c,e⟩:=step i σ g hi h
  exact⟨d,σ1,a,b,.inl ⟨σ2,g2,.inl c,e⟩⟩) stop (n+1) 0 σ g (by omega) (by omega) h0
 rcases this with h|h
 ·exact h
 ·exact h.2.elim
theorem ZQ{src:Src}{t:MG}{c:MT}{e:ME}{n:Nat}(I:Nat->S3->G->List D->Prop)(step:∀i σ g acc,i<n->I i σ g acc->∃d σ1 g1,src.at' g i=some (some d)/\t d σ=some σ1/\((∃y g2,c σ1 g=.ok true g1/\e σ1 g1=.ok y g2/\I (i+1) σ1 g2 (acc++[y]))\/(c σ1 g=.ok false g1/\I (i+1) σ1 g1 acc)))(stop:∀σ g acc,I n σ g acc->src.at' g n=some none):∀(f i:Nat)(σ:S3)(g:G)(acc:List D),n-i<f->i<=n->I i σ g acc->∃ds σ' g',ZT src t c e f i σ g acc=.ok ds g'/\I n σ' g' ds
 |0,_,_,_,_,h,_,_=>by omega
 |f+1,i,σ,g,acc,hf,hi,h=>by
  unfold ZT
  by_cases q:i=n
  ·subst q
   rw[stop σ g acc h]
   exact⟨acc,σ,g,rfl,h⟩
  ·obtain⟨d,σ1,g1,h1,h2,h3⟩:=step i σ g acc (by omega) h
   rw[h1]
   dsimp only
   rw[h2]
   dsimp only
   rcases h3 with⟨y,g2,h3,h4,h5⟩|⟨h3,h5⟩
   ·rw[h3];dsimp only;rw[Uf rfl,h4];exact ZQ I step stop f (i+1) σ1 g2 _ (by omega) (by omega) h5
   ·rw[h3];dsimp only;rw[Uh Ud];exact ZQ I step stop f (i+1) σ1 g1 _ (by omega) (by omega) h5
theorem Qdz{ds:List D}{e:ME}{no:Nat}{σ:S3}{g:G}{f:D->D}(hz:ds.length<=SZ)(he:∀d∈ds,∀g1,Keeps [] g g1->∃g2,e ((List.replicate (no+1) none++σ).set 0 (some d)) g1=.ok (f d) g2/\Keeps [] g1 g2):
  ∃g',ZT ⟨λ_ i=>some ds[i]?,ds.length⟩ (gSet 0) QP e (ds.length+1) 0 (List.replicate (no+1) none++σ) g []=.ok (ds.map f) g'/\Keeps [] g g':=by
 obtain⟨xs,σ',g',h1,h2,h3,h4⟩:=ZQ (src:=⟨λ_ i=>some ds[i]?,ds.length⟩) (t:=gSet 0) (c:=QP) (e:=e) (n:=ds.length)
  (λi σ' g1 acc=>acc=(ds.take i).map f/\Keeps [] g g1/\∃u,σ'=(List.replicate (no+1) none++σ).set 0 u) (λi σ' g1 acc hi h=>by
   obtain⟨h1,h2,u,h3⟩:=h
   obtain⟨g2,k1,k2⟩:=he ds[i] (Ut hi) g1 h2
   refine⟨ds[i],_,g1,by simp[hi],rfl,.inl ⟨f ds[i],g2,rfl,?_,?_,h2.trans k2,some ds[i],?_⟩⟩
   ·subst h3;rw[Ww];exact k1
   ·rw[h1,Tx hi,UU];rfl
   ·subst h3;rw[Ww]) (λσ g acc _=>by simp) (ds.length+1) 0 (List.replicate (no+1) none++σ) g [] (by omega) (by omega) ⟨by simp,.refl,none,by simp[Tn]⟩
 refine⟨g',?_,h3⟩
 rw[h1,h2,T9]
noncomputable def Yb(d:D)(n:Int):Bool:=match d with
 |.int i=>decide (0<=i/\i<n)
 |_=>false
noncomputable def Qi3:D->Bool
 |.int _=>true
 |_=>false
theorem J0(d:D)(n:Int)(g:G)(t:Ty)(_:tyOf g d=some t)(hp:Qi3 d=true:=by rfl):Ze [d,.int n] g=.ok (.bl (Yb d n)) g:=by
 cases d with
 |int i =>
  have c:Yz pLe pLt (mLit (.int 0)) (mVar 0) (mVar 1) [some (.int i),some (.int n)] g=.ok (.bl (decide (0<=i/\i<n))) g:=by
   unfold Yz
   rw[show mLit (D.int 0) [some (D.int i),some (D.int n)] g=.ok (.int 0) g from rfl,Res.bind_ok,show mVar 0 [some (D.int i),some (D.int n)] g=.ok (.int i) g from rfl,Res.bind_ok,show pLe (.int 0) (.int i) g=.ok (.bl (decide (0<=i))) g from rfl,Res.bind_ok]
   by_cases h0:0<=i
   ·rw[UL h0]
    show Res.ok (D.bl (decide (i<n))) g=_
    by_cases h1:i<n
    ·rw[UL h1,UL ⟨h0,h1⟩]
    ·rw[Uw h1,Uw λz=>h1 z.2]
   ·rw[Uw h0,Uw λz=>h0 z.1]
  have a1:Qn Yu (Qa (mVar 0) mNil) [some (.int i),some (.int n)] g=.ok (.bl true) g:=rfl
  show(match mRet (mAnd (Qn Yu (Qa (mVar 0) mNil)) (Yz pLe pLt (mLit (.int 0)) (mVar 0) (mVar 1))) [some (.int i),some (.int n)] g with
   |.nx _ g'=>Res.ok D.non g'
   |.rt d g'=>.ok d g'
   |.raise e _ g'=>.raise e g'
   |_=>.stuck)=_
  unfold mRet mAnd
  rw[a1,Res.bind_ok]
  dsimp only
  rw[Uf rfl,c]
  rfl
 |_=>cases hp
theorem s_l:Str.ofString "l" = ⟨#[108]⟩:=by decide +kernel
theorem s_r:Str.ofString "r" = ⟨#[114]⟩:=by decide +kernel
noncomputable def wayD:D->Bool
 |.str s=>s == ⟨#[108]⟩ || s == ⟨#[114]⟩
 |_=>false
noncomputable def entD(d:D)(states signs:Int):Bool:=match d with
 |.non=>true
 |.tup [a,b,c]=>Yb a signs && wayD b && Yb c states
 |_=>false
def thingD(_:G)(d:D):Prop:=d=.non\/∃(i j:Int)(w:Str),d=.tup [.int i,.str w,.int j]
theorem QhB(s:Str)(g:G):pIn false (.str s) (.tup [.str ⟨#[108]⟩,.str ⟨#[114]⟩]) g=.ok (.bl (wayD (.str s))) g:=by
 show Res.ok (D.bl ((⟨#[108]⟩ == s) || ((⟨#[114]⟩ == s) || false))) g=.ok (.bl ((s == ⟨#[108]⟩) || (s == ⟨#[114]⟩))) g
 rw[show((⟨#[108]⟩:Str) == s)=(s == ⟨#[108]⟩) from BEq.comm,show((⟨#[114]⟩:Str) == s)=(s == ⟨#[114]⟩) from BEq.comm,Bool.or_false]
theorem Qci(d:D)(states signs:Int)(g:G)(h:thingD g d):ZL [d,.int states,.int signs] g=.ok (.bl (entD d states signs)) g:=by
 rcases h with rfl|⟨i,j,w,rfl⟩
 ·rfl
 ·have a1:Qn Ze (Qa (mOp2 pIx (mVar 0) (mLit (.int 0))) (Qa (mVar 2) mNil)) [some (.tup [.int i,.str w,.int j]),some (.int states),some (.int signs)] g=.ok (.bl (Yb (.int i) signs)) g:=J0 (.int i) signs g .int rfl
  have a3:Qn Ze (Qa (mOp2 pIx (mVar 0) (mLit (.int 2))) (Qa (mVar 1) mNil)) [some (.tup [.int i,.str w,.int j]),some (.int states),some (.int signs)] g=.ok (.bl (Yb (.int j) states)) g:=J0 (.int j) states g .int rfl
  have a2:mOp2 (pIn false) (mOp2 pIx (mVar 0) (mLit (.int 1))) (mOpA pTup (Qa (mLit (.str "l")) (Qa (mLit (.str "r")) mNil))) [some (.tup [.int i,.str w,.int j]),some (.int states),some (.int signs)] g=.ok (.bl (wayD (.str w))) g:=by
   rw[s_l,s_r];exact QhB w g
  show(match (mRet (mAnd (Qn Ze (Qa (mOp2 pIx (mVar 0) (mLit (.int 0))) (Qa (mVar 2) mNil))) (mAnd (mOp2 (pIn false) (mOp2 pIx (mVar 0) (mLit (.int 1))) (mOpA pTup (Qa (mLit (.str "l")) (Qa (mLit (.str "r")) mNil)))) (Qn Ze (Qa (mOp2 pIx (mVar 0) (mLit (.int 2))) (Qa (mVar 1) mNil)))))) [some (.tup [.int i,.str w,.int j]),some (.int states),some (.int signs)] g with
   |.nx _ g'=>Res.ok D.non g'
   |.rt d g'=>.ok d g'
   |.raise e _ g'=>.raise e g'
   |_=>.stuck)=.ok (.bl (Yb (.int i) signs && wayD (.str w) && Yb (.int j) states)) g
  unfold mRet mAnd
  rw[a1,Res.bind_ok]
  dsimp only
  cases Yb (.int i) signs
  ·rfl
  ·rw[Uf rfl,a2,Res.bind_ok]
   dsimp only
   cases wayD (.str w)
   ·rfl
   ·rw[Uf rfl,a3];rfl
theorem Keeps.ty{g g1:G}(k:Keeps [] g g1){d:D}{t:Ty}(h:tyOf g d=some t):tyOf g1 d=some t:=by
 cases d with
 |ref n =>
  unfold tyOf at h ⊢
  dsimp only at h ⊢
  cases hg:g[n]? with
  |none=>rw[hg]at h;cases h
  |some o=>rw[hg]at h;rw[k.at' n o (by simp) hg];exact h
 |_=>exact h
theorem thingD.mono{g g1:G}{d:D}(_:Keeps [] g g1)(h:thingD g d):thingD g1 d:=h
theorem Jy{α:Type}(f:α->Bool):∀ts:List α,allB (ts.map λd=>D.bl (f d))=some (ts.all f)
 |[]=>rfl
 |t::ts=>by simp[allB,Jy f ts]
noncomputable def ZE(n m:Nat)(r:List D):Bool:=r.length == m && r.all λd=>entD d n m
noncomputable def ZB(rows:List (List D)):Bool:=match rows with
 |[]=>false
 |r::_=>r.length != 0 && rows.all (ZE rows.length r.length)
theorem QeU(c:Nat)(t:Str)(σ:S3)(g:G):YQ c (Qa (mLit (.str t)) mNil) σ g=.raise (c,none) σ g:=by simp[YQ,Qa,mLit,mNil,Res.bind,SZ]
theorem eq_int(i j:Int)(g:G):pEq (.int i) (.int j) g=.ok (.bl (i == j)) g:=rfl
theorem ne_int(i j:Int)(g:G):pNe (.int i) (.int j) g=.ok (.bl (!(i == j))) g:=rfl
theorem QhC(n m:Nat)(ts:List D)(x:D)(g:G)(hz:ts.length<=SZ)(h:∀d∈ts,thingD g d):
  ∃g',Keeps [] g g'/\mOp1 pAll (Zm (Qt (mVar 3)) 1 [1,2] (gSet 0) QP (Qn ZL (Qa (mVar 0) (Qa (mVar 1) (Qa (mVar 2) mNil))))) [some x,some (.int n),some (.int m),some (.tup ts)] g=.ok (.bl (ts.all λd=>entD d n m)) g':=by
 obtain⟨g1,h1,k1⟩:=Qdz (ds:=ts) (e:=Qn ZL (Qa (mVar 0) (Qa (mVar 1) (Qa (mVar 2) mNil)))) (no:=0) (σ:=[some (.int n),some (.int m)]) (g:=g) (f:=λd=>.bl (entD d n m)) hz
  (λd hd g1 k=>⟨g1,by simp[Qn,Qa,mNil,mVar,Res.bind,Qci d n m g1 ((h d hd).mono k)],.refl⟩)
 refine⟨g1++[.lst (ts.map λd=>.bl (entD d n m))],k1.trans (.push _),?_⟩
 have h1:ZT ⟨λ_ i=>some ts[i]?,ts.length⟩ (gSet 0) QP (Qn ZL (Qa (mVar 0) (Qa (mVar 1) (Qa (mVar 2) mNil)))) (ts.length+1) 0 [none,some (.int n),some (.int m)] g []=.ok (ts.map λd=>.bl (entD d n m)) g1:=h1
 simp[mOp1,Zm,Qt,mVar,Res.bind,JG,hz,capt,h1,pAll,Jy]
theorem Qf6(n m:Nat)(ts:List D)(x:D)(g:G)(hz:ts.length<=SZ)(h:∀d∈ts,thingD g d):
  ∃g',Keeps [] g g'/\QQ [some x,some (.int n),some (.int m),some (.tup ts)] g=if ZE n m ts=true then .nx [some x,some (.int n),some (.int m),some (.tup ts)] g' else .raise (1,none) [some x,some (.int n),some (.int m),some (.tup ts)] g':=by
 by_cases hl:ts.length=m
 ·obtain⟨g2,k2,e2⟩:=QhC n m ts x g hz h
  refine⟨g2,k2,?_⟩
  have hl':((ts.length:Int) == (m:Int))=true:=by simp[hl]
  have gr:ZE n m ts=ts.all λd=>entD d n m:=by simp[ZE,hl]
  rw[gr]
  simp only[QQ,mSeq,mIf,Qk,mOp2,mOp1,mVar,Res.bind,Rr,Rs,pLen,ne_int,hl',Bool.not_true,Rm,WK,QO,Zl]
  simp only[mOp1,Res.bind]at e2
  rw[e2]
  cases (ts.all λd=>entD d n m) <;> simp[YQ,Qa,mLit,mNil,Res.bind,SZ]
 ·refine⟨g,.refl,?_⟩
  have hl':((ts.length:Int) == (m:Int))=false:=by simp;omega
  have gr:ZE n m ts=false:=by
   have:(ts.length == m)=false:=by simp[hl]
   simp only[ZE,this,TM]
  rw[gr]
  simp only[QQ,mSeq,mIf,Qk,mOp2,mOp1,mVar,Res.bind,Rr,Rs,pLen,ne_int,hl',Bool.not_false,Wd,QeU,Rm,WK]
theorem QaY(rows:List (List D))(g:G)(hz:∀r∈rows,r.length<=SZ)(h:∀r∈rows,∀d∈r,thingD g d):
  ∃g',Keeps [] g g'/\Zg [.tup (rows.map .tup)] g=if ZB rows=true then .ok .non g' else .raise (1,none) g':=by
 cases rows with
 |nil=>exact⟨g,.refl,by simp[Zg,mDef,Zf,mSeq,mIf,Qk,mOp2,mOp1,mVar,mLit,Res.bind,pLen,eq_int,QeU,ZB]⟩
 |cons r rest =>
  have e0:¬((rest.length:Int)+1=0):=by omega
  have e1:(0:Int)<(rest.length:Int)+1:=by omega
  by_cases hr:r.length=0
  ·refine⟨g,.refl,?_⟩
   simp[Zg,mDef,Zf,mSeq,mIf,Qk,mOp2,mOp1,mVar,mLit,Res.bind,pLen,eq_int,QeU,ZB,hr,e0,e1,QO,mAsg,gSet,pIx,atD,ixD]
  ·have hr':¬((r.length:Int)=0):=by omega
   have hrn:¬r=[]:=λz=>hr (by rw[z];rfl)
   have hd0:ZB (r::rest)=(r::rest).all (ZE (r::rest).length r.length):=by simp[ZB,hr]
   have loop:=QbF (t:=gSet 3) (ds:=(r::rest).map D.tup) (σ:=[some (.tup ((r::rest).map .tup)),some (.int (r::rest).length),some (.int r.length),none]) (g:=g) (body:=QQ)
    (λi σ g1=>Keeps [] g g1/\(∃u,σ=[some (.tup ((r::rest).map .tup)),some (.int (r::rest).length),some (.int r.length),u])/\∀x∈(r::rest).take i,ZE (r::rest).length r.length x=true)
    (λo=>∃σ' g1,o=.raise (1,none) σ' g1/\Keeps [] g g1/\∃x∈r::rest,ZE (r::rest).length r.length x=false) ⟨.refl,⟨none,rfl⟩,by simp⟩ (λi d σ g1 hd hQ=>by
     obtain⟨k,⟨u,hσ⟩,hg⟩:=hQ
     rw[UA]at hd
     cases hx:(r::rest)[i]? with
     |none=>rw[hx]at hd;cases hd
     |some ts =>
      rw[hx]at hd
      cases hd
      have hm:ts∈r::rest:=Tz hx
      subst hσ
      refine⟨_,rfl,?_⟩
      obtain⟨g2,k2,e2⟩:=Qf6 (r::rest).length r.length ts (.tup ((r::rest).map .tup)) g1 (hz ts hm) λd hd=>(h ts hm d hd).mono k
      simp only[List.set]
      rw[e2]
      cases ha:ZE (r::rest).length r.length ts with
      |true =>
       left
       refine⟨_,g2,by rw[Uf rfl],k.trans k2,⟨_,rfl⟩,λx hx'=>?_⟩
       rw[List.take_succ,hx]at hx'
       rcases UB.mp hx' with z|z
       ·exact hg x z
       ·have:x=ts:=by simpa using z
        rw[this];exact ha
      |false =>
       right
       rw[Uh Ud]
       exact⟨trivial,_,g2,rfl,k.trans k2,ts,hm,ha⟩)
   have fin:Zf [some (.tup ((r::rest).map .tup)),none,none,none] g=forL ⟨λ_ i=>some ((r::rest).map D.tup)[i]?,((r::rest).map D.tup).length⟩ (gSet 3) QQ (((r::rest).map D.tup).length+1) 0 [some (.tup ((r::rest).map .tup)),some (.int (r::rest).length),some (.int r.length),none] g:=by
    simp[Zf,mSeq,mIf,Qk,mOp2,mOp1,mVar,mLit,Res.bind,pLen,eq_int,e0,QO,mAsg,gSet,pIx,atD,ixD,e1,hr',hrn,mFor,Qt,JG]
   have ap:Zg [.tup ((r::rest).map .tup)] g=match Zf [some (.tup ((r::rest).map .tup)),none,none,none] g with
    |.nx _ g'=>.ok .non g'
    |.rt d g'=>.ok d g'
    |.raise e _ g'=>.raise e g'
    |_=>.stuck:=rfl
   rw[ap,fin]
   rcases loop with⟨σ',g',h1,k1,_,h2⟩|⟨_,σ',g',h1,k1,x,hx,hg⟩
   ·refine⟨g',k1,?_⟩
    have:ZB (r::rest)=true:=by
     rw[hd0,Ux]
     intro x hx
     exact h2 x (by rw[Uc,T9];exact hx)
    rw[Uf this,h1]
   ·refine⟨g',k1,?_⟩
    have:¬ZB (r::rest)=true:=by
     rw[hd0,Ux]
     intro z
     rw[z x hx]at hg;cases hg
    rw[Uh this,h1]
theorem Keeps.seq{g g1:G}(k:Keeps [] g g1){d:D}{p:Bool×List D}(h:Qs g d=some p):Qs g1 d=some p:=by
 cases d with
 |ref n =>
  unfold Qs at h ⊢
  dsimp only at h ⊢
  cases hg:g[n]? with
  |none=>rw[hg]at h;cases h
  |some o=>rw[hg]at h;rw[k.at' n o (by simp) hg];exact h
 |_=>exact h
theorem Jm{g:G}{d:D}{b:Bool}{ds:List D}(h:Qs g d=some (b,ds)):∃src,JG d g=.ok src g/\src.top=ds.length/\∀g1 i,Qs g1 d=some (b,ds)->src.at' g1 i=some ds[i]?:=by
 cases d with
 |tup es=>cases h;exact⟨_,rfl,rfl,λ_ _ _=>rfl⟩
 |fl es=>cases h;exact⟨_,rfl,rfl,λ_ _ _=>rfl⟩
 |ref n =>
  unfold Qs at h
  dsimp only at h
  cases hg:g[n]? with
  |none=>rw[hg]at h;cases h
  |some o =>
   rw[hg]at h
   cases o with
   |lst es =>
    cases h
    refine⟨_,by unfold JG;dsimp only;rw[hg],rfl,λg1 i h1=>?_⟩
    unfold Qs at h1
    dsimp only at h1 ⊢
    cases hg1:g1[n]? with
    |none=>rw[hg1]at h1;cases h1
    |some o1 =>
     rw[hg1]at h1
     cases o1 with
     |lst es1=>cases h1;rfl
     |_=>cases h1
   |_=>cases h
 |_=>cases h
theorem Yv{src:Src}{ds:List D}{e:ME}{no:Nat}{σ:S3}{g:G}{f:D->D}(ht:src.top=ds.length)(hs:∀g1 i,Keeps [] g g1->src.at' g1 i=some ds[i]?)(he:∀d∈ds,∀g1,Keeps [] g g1->∃g2,e ((List.replicate (no+1) none++σ).set 0 (some d)) g1=.ok (f d) g2/\Keeps [] g1 g2):
  ∃g',ZT src (gSet 0) QP e (src.top+1) 0 (List.replicate (no+1) none++σ) g []=.ok (ds.map f) g'/\Keeps [] g g':=by
 obtain⟨xs,σ',g',h1,h2,h3,h4⟩:=ZQ (src:=src) (t:=gSet 0) (c:=QP) (e:=e) (n:=ds.length)
  (λi σ' g1 acc=>acc=(ds.take i).map f/\Keeps [] g g1/\∃u,σ'=(List.replicate (no+1) none++σ).set 0 u) (λi σ' g1 acc hi h=>by
   obtain⟨h1,h2,u,h3⟩:=h
   obtain⟨g2,k1,k2⟩:=he ds[i] (Ut hi) g1 h2
   refine⟨ds[i],_,g1,by rw[hs g1 i h2];simp[hi],rfl,.inl ⟨f ds[i],g2,rfl,?_,?_,h2.trans k2,some ds[i],?_⟩⟩
   ·subst h3;rw[Ww];exact k1
   ·rw[h1,Tx hi,UU];rfl
   ·subst h3;rw[Ww]) (λσ g1 acc h=>by rw[hs g1 _ h.2.1];simp) (src.top+1) 0 (List.replicate (no+1) none++σ) g [] (by omega) (by omega) ⟨by simp,.refl,none,by simp[Tn]⟩
 refine⟨g',?_,h3⟩
 rw[h1,h2,T9]
def rowsOf(g:G)(d:D)(rows:List (List D)):Prop:=∃b ds,Qs g d=some (b,ds)/\ds.length=rows.length/\∀(i:Nat) x r,ds[i]?=some x->rows[i]?=some r->∃c,Qs g x=some (c,r)
theorem rowsOf.mono{g g1:G}{d:D}{rows:List (List D)}(k:Keeps [] g g1)(h:rowsOf g d rows):rowsOf g1 d rows:=by
 obtain⟨b,ds,h1,h2,h3⟩:=h
 exact⟨b,ds,k.seq h1,h2,λi x r hx hr=>let ⟨c,q⟩:=h3 i x r hx hr;⟨c,k.seq q⟩⟩
theorem QbG{g:G}{d:D}{b:Bool}{ds:List D}(h:Qs g d=some (b,ds)):ZF d g=.ok (.tup ds) g:=by
 cases d with
 |tup es=>cases h;rfl
 |fl es=>cases h;rfl
 |ref n =>
  unfold Qs at h
  dsimp only at h
  cases hg:g[n]? with
  |none=>rw[hg]at h;cases h
  |some o =>
   rw[hg]at h
   cases o with
   |lst es=>cases h;simp[ZF,hg]
   |_=>cases h
 |_=>cases h
noncomputable def QaZ(rows:List (List D)):GO:=.ins 11 [(Str.ofString "table",.tup (rows.map .tup))]
theorem QhD(m:Nat)(d:D)(rows:List (List D))(g:G)(hm:g[m]?=some (.ins 11 []))(hr:rowsOf g d rows)(hz:∀r∈rows,r.length<=SZ)(hl:rows.length<=SZ)(h:∀r∈rows,∀d∈r,thingD g d):
  ∃g',Keeps [] g g'/\Zb [.ref m,d] g=if ZB rows=true then .ok .non (g'.set m (QaZ rows)) else .raise (1,none) g':=by
 obtain⟨b,ds,h1,h2,h3⟩:=hr
 obtain⟨src,s1,s2,s3⟩:=Jm h1
 have mp:∀x∈ds,∃c r,Qs g x=some (c,r):=λx hx=>by
  obtain⟨i,hi,rfl⟩:=Rc hx
  obtain⟨c,q⟩:=h3 i ds[i] (rows[i]'(by omega)) (by simp[hi]) (by simp[show i<rows.length by omega])
  exact⟨c,_,q⟩
 obtain⟨g1,c1,k1⟩:=Yv (src:=src) (ds:=ds) (e:=mOp1 ZF (mVar 0)) (no:=0) (σ:=[]) (g:=g) (f:=λx=>.tup (((Qs g x).map (·.2)).getD [])) s2 (λg1 i k=>s3 g1 i (k.seq h1)) (λx hx g1 k=>by
  obtain⟨c,r,q⟩:=mp x hx
  refine⟨g1,?_,.refl⟩
  simp[mOp1,mVar,Res.bind,QbG (k.seq q),q])
 have em:(ds.map λx=>D.tup (((Qs g x).map (·.2)).getD []))=rows.map .tup:=by
  apply Ws
  ·simp[h2]
  ·intro i hi hi'
   simp only[Uc]at hi hi'
   obtain⟨c,q⟩:=h3 i ds[i] rows[i] (by simp[hi]) (by simp[hi'])
   simp[q]
 rw[em]at c1
 have c1:ZT src (gSet 0) QP (mOp1 ZF (mVar 0)) (src.top+1) 0 [none] g []=.ok (rows.map .tup) g1:=c1
 have k2:Keeps [] g (g1++[.lst (rows.map .tup)]):=k1.trans (.push _)
 obtain⟨g3,k3,c3⟩:=QaY rows (g1++[.lst (rows.map .tup)]) hz λr hr d hd=>(h r hr d hd).mono k2
 refine⟨g3,k2.trans k3,?_⟩
 have hz2:src.top<=SZ:=by omega
 have hm3:=(k2.trans k3).at' m _ (by simp) hm
 simp[Zb,mDef,YA,mSeq,mAsg,mOp1,Zm,Qt,mVar,Res.bind,s1,hz2,capt,c1,ZF,gSet,YO,Qn,Qa,mNil,c3]
 by_cases hg:ZB rows=true
 ·simp[hg,Jt,mVar,hm3,putG,QaZ]
 ·simp[hg]
theorem QhE(d:D)(rows:List (List D))(g:G)(hr:rowsOf g d rows)(hz:∀r∈rows,r.length<=SZ)(hl:rows.length<=SZ)(h:∀r∈rows,∀d∈r,thingD g d)(a:MA)(σ:S3)(g0:G)(ha:a σ g0=.ok [d] g):
  ∃g',Keeps [] g g'/\Qd7 11 Zb a σ g0=(if ZB rows=true then .ok (.ref g.length) g' else .raise (1,none) g')/\(ZB rows=true->g'[g.length]?=some (QaZ rows)):=by
 have kp:Keeps [] g (g++[.ins 11 []]):=.push _
 obtain⟨g',k',e'⟩:=QhD g.length d rows (g++[.ins 11 []]) (Qm _) (hr.mono kp) hz hl λr hr d hd=>(h r hr d hd).mono kp
 by_cases hg:ZB rows=true
 ·rw[Uf hg]at e'
  refine⟨g'.set g.length (QaZ rows),?_,?_,λ_=>?_⟩
  ·refine⟨by rw[UR];exact Uo kp.len k'.len,λn o _ e=>?_⟩
   have hn:n<g.length:=Q0 e
   rw[Uy (by omega)]
   exact(kp.trans k').at' n o (by simp) e
  ·simp[Qd7,ha,Res.bind,e',hg]
  ·rw[U0]
   have:=k'.len
   simp at this
   omega
 ·rw[Uh hg]at e'
  exact⟨g',kp.trans k',by simp[Qd7,ha,Res.bind,e',hg],λz=>absurd z hg⟩
theorem ZR{a b:MS}{σ σ':S3}{g g':G}(h:a σ g=.nx σ' g'):mSeq a b σ g=b σ' g':=by unfold mSeq;rw[h]
theorem ZH{a b:MS}{σ:S3}{d:D}{g g':G}(h:a σ g=.rt d g'):mSeq a b σ g=.rt d g':=by unfold mSeq;rw[h]
theorem QeV{a b:MS}{σ σ':S3}{x:Xc}{g g':G}(h:a σ g=.raise x σ' g'):mSeq a b σ g=.raise x σ' g':=by unfold mSeq;rw[h]
theorem Qw{i:Nat}{a:ME}{σ:S3}{d:D}{g g':G}(h:a σ g=.ok d g'):mAsg (gSet i) a σ g=.nx (σ.set i (some d)) g':=by unfold mAsg;rw[h];rfl
theorem Qa0{c:MT}{a b:MS}{σ:S3}{g g':G}(h:c σ g=.ok true g'):mIf c a b σ g=a σ g':=by unfold mIf;rw[h];rfl
theorem QbH{c:MT}{a b:MS}{σ:S3}{g g':G}(h:c σ g=.ok false g'):mIf c a b σ g=b σ g':=by unfold mIf;rw[h];rfl
theorem Qy{f:MF}{a:MA}{σ:S3}{ds:List D}{g g':G}(h:a σ g=.ok ds g'):Qn f a σ g=f ds g':=by unfold Qn;rw[h];rfl
theorem Qcj{a:ME}{σ:S3}{d:D}{g g':G}(h:a σ g=.ok d g'):YO a σ g=.nx σ g':=by unfold YO;rw[h]
theorem QN{a:ME}{σ:S3}{d:D}{g g':G}(h:a σ g=.ok d g'):mRet a σ g=.rt d g':=by unfold mRet;rw[h]
theorem QR{k n:Nat}{b:MS}{ds:List D}{d:D}{g g':G}(hl:ds.length=k)(h:b (ds.map some++List.replicate n none) g=.rt d g'):mDef k n b ds g=.ok d g':=by unfold mDef;rw[Uf hl,h]
theorem Qi4(ns:List Int)(i:Int)(h:0<ns.length):∃x,atD (ns.map D.int) (i%ns.length)=some (.int x):=by
 have h1:0<=i % (ns.length:Int):=U7 _ (by omega)
 have h2:i % (ns.length:Int)<ns.length:=U2 _ (by omega)
 have h3:(i % (ns.length:Int)).toNat<ns.length:=by omega
 refine⟨ns[(i % (ns.length:Int)).toNat],?_⟩
 unfold atD ixD
 rw[Uc,Uf h1,Uf h2]
 simp[h3]
theorem ix0{a:Nat}{d:D}{g:G}(h:g[a]?=some (.lst [d])):pIx (.ref a) (.int 0) g=.ok d g:=by
 unfold pIx;dsimp only;rw[h];rfl
theorem ixfl{ds:List D}{i:Int}{d:D}{g:G}(h:atD ds i=some d):pIx (.fl ds) (.int i) g=.ok d g:=by
 unfold pIx;dsimp only;rw[h]
theorem QeW(c:Int)(x:D)(a:Nat)(k:Int)(g:G)(ga:g[a]?=some (.lst [.int k]))(hk:0<=k)(hk2:k<1000000001):∃m,0<=m/\m<1999999973/\(mSeq (mAsg (gSet 3) (mOp2 pMod (mOp2 pMul (mOp2 pAdd (mOp2 pAdd (mOp2 pMod (mVar 2) (mLit (.int 2147483647))) (mOp2 pMul (mOp2 pMul (mOp2 pIx (mVar 1) (mLit (.int 0))) (mOp2 pIx (mVar 1) (mLit (.int 0)))) (mLit (.int 7919)))) (mLit (.int 11))) (mLit (.int 48271))) (mLit (.int 2147483647))))
      (mRet (mOp2 pMod (mOp2 pMul (mVar 3) (mVar 3)) (mLit (.int 1999999973))))) [some x,some (.ref a),some (.int c),none] g=.rt (.int m) g:=by
  have c1:cM k:=⟨by omega,by omega⟩
  have c2:cM 7919:=⟨by decide,by decide⟩
  have c3:cM 48271:=⟨by decide,by decide⟩
  have hr:=U2 ((c%2147483647+k*k*7919+11)*48271) (show(0:Int)<2147483647 by decide)
  have hr0:=U7 ((c%2147483647+k*k*7919+11)*48271) (show(2147483647:Int)≠0 by decide)
  have c4:cM (((c%2147483647+k*k*7919+11)*48271) % 2147483647):=⟨by omega,by omega⟩
  refine⟨((c%2147483647+k*k*7919+11)*48271) % 2147483647*(((c%2147483647+k*k*7919+11)*48271) % 2147483647) % 1999999973,U7 _ (by decide),U2 _ (by decide),?_⟩
  have e1:(mOp2 pMod (mOp2 pMul (mOp2 pAdd (mOp2 pAdd (mOp2 pMod (mVar 2) (mLit (.int 2147483647))) (mOp2 pMul (mOp2 pMul (mOp2 pIx (mVar 1) (mLit (.int 0))) (mOp2 pIx (mVar 1) (mLit (.int 0)))) (mLit (.int 7919)))) (mLit (.int 11))) (mLit (.int 48271))) (mLit (.int 2147483647))) [some x,some (.ref a),some (.int c),none] g=.ok (.int (((c%2147483647+k*k*7919+11)*48271) % 2147483647)) g:=by
    simp[mOp2,mVar,mLit,Res.bind,ix0 ga,pMod,pMul,pAdd,c1,c2,c3]
  rw[ZR (Qw e1)]
  generalize ((c%2147483647+k*k*7919+11)*48271) % 2147483647=r at c4 ⊢
  refine QN ?_
  simp[mOp2,mVar,mLit,Res.bind,pMod,pMul,c4]
theorem Jf(ns:List Int)(a:Nat)(k:Int)(g:G)(hg:g[a]?=some (.lst [.int k]))(hk:0<=k)(hk2:k<1000000000):
  ∃m,0<=m/\m<1999999973/\QV [.fl (ns.map .int),.ref a] g=.ok (.int m) (g.set a (.lst [.int (k+1)])):=by
 have s1:Zz (mVar 1) (mLit (.int 0)) (mOp2 pAdd (mOp2 pIx (mVar 1) (mLit (.int 0))) (mLit (.int 1))) [some (.fl (ns.map .int)),some (.ref a),none,none] g=.nx [some (.fl (ns.map .int)),some (.ref a),none,none] (g.set a (.lst [.int (k+1)])):=by
  simp[Zz,mOp2,mVar,mLit,Res.bind,ix0 hg,pAdd,hg,ixD]
 have ga:(g.set a (.lst [.int (k+1)]))[a]?=some (.lst [.int (k+1)]):=Q8 hg
 generalize g.set a (.lst [.int (k+1)])=g1 at s1 ga ⊢
 have s2:mAsg (gSet 2) (mLit (.int 0)) [some (.fl (ns.map .int)),some (.ref a),none,none] g1=.nx [some (.fl (ns.map .int)),some (.ref a),some (.int 0),none] g1:=rfl
 have s3:∃c,mIf (Qk (mOp2 pGt (mOp1 pLen (mVar 0)) (mLit (.int 0)))) (mAsg (gSet 2) (mOp2 pIx (mVar 0) (mOp2 pMod (mOp2 pIx (mVar 1) (mLit (.int 0))) (mOp1 pLen (mVar 0))))) QO [some (.fl (ns.map .int)),some (.ref a),some (.int 0),none] g1=.nx [some (.fl (ns.map .int)),some (.ref a),some (.int c),none] g1:=by
  by_cases hl:0<ns.length
  ·obtain⟨x,hx⟩:=Qi4 ns (k+1) hl
   have hl':(0:Int)<(ns.length:Int):=by omega
   refine⟨x,?_⟩
   rw[Qa0 (g':=g1) (by simp[Qk,mOp2,mOp1,mVar,mLit,Res.bind,pLen,pGt,pCmp,hl])]
   refine Qw ?_
   simp only[mOp2,mOp1,mVar,mLit,Res.bind,Rr,Rs,ix0 ga,pLen,pMod,Uc,hl',Wd,ixfl hx]
  ·cases ns with
   |nil=>exact⟨0,rfl⟩
   |cons x r=>simp at hl
 obtain⟨c,s3⟩:=s3
 obtain⟨m,m1,m2,m3⟩:=QeW c (.fl (ns.map .int)) a (k+1) g1 ga (by omega) (by omega)
 refine⟨m,m1,m2,QR rfl ?_⟩
 show QaU [some (.fl (ns.map .int)),some (.ref a),none,none] g=_
 unfold QaU
 rw[ZR s1,ZR s2,ZR s3,m3]
def entOk(d:D)(n m:Nat):Prop:=d=.non\/∃(i j:Int)(w:Str),d=.tup [.int i,.str w,.int j]/\0<=i/\i<m/\0<=j/\j<n/\(w=⟨#[108]⟩\/w=⟨#[114]⟩)
theorem entOk.ent{d:D}{n m:Nat}(h:entOk d n m):entD d n m=true:=by
 rcases h with rfl|⟨i,j,w,rfl,h1,h2,h3,h4,h5⟩
 ·rfl
 ·rcases h5 with rfl|rfl <;> simp[entD,Yb,wayD,h1,h2,h3,h4]
theorem entOk.thing{d:D}{n m:Nat}{g:G}(h:entOk d n m):thingD g d:=by
 rcases h with h|⟨i,j,w,h,_⟩
 ·exact .inl h
 ·exact .inr ⟨i,j,w,h⟩
theorem s_lr:Str.ofString "lr" = ⟨#[108,114]⟩:=by decide +kernel
theorem QjK(i:Int)(g:G):∃w,pIx (.str "lr") (.int (i%2)) g=.ok (.str w) g/\(w=⟨#[108]⟩\/w=⟨#[114]⟩):=by
 rw[s_lr]
 rcases(by omega:i%2=0\/i%2=1) with e|e
 ·rw[e];exact⟨_,rfl,.inl rfl⟩
 ·rw[e];exact⟨_,rfl,.inr rfl⟩
theorem J4{n:Nat}{ds:List D}{y:D}{σ:S3}{g:G}{i j:Nat}(hi:σ[i]?=some (some (.ref n)))(hj:σ[j]?=some (some y))(h:g[n]?=some (.lst ds))(hz:ds.length<SZ):
  YO (Yf (mVar i) (mVar j)) σ g=.nx σ (g.set n (.lst (ds++[y]))):=by
 refine Qcj (d:=.non) ?_
 simp[Yf,mVar,hi,hj,Res.bind,h,hz]
theorem QeX(ns:List Int)(a l t:Nat)(k:Int)(n m:Nat)(x5 x7 x8 x9:Option D)(row:List D)(g:G)(hn:0<n)(hm:0<m)(ga:g[a]?=some (.lst [.int k]))(gl:g[l]?=some (.lst row))(hal:a≠l)(hk:0<=k)(hk2:k<1000000000)(hz:row.length<SZ):
  ∃d x8',entOk d n m/\Q3 [some (.fl (ns.map .int)),some (.ref a),some (.int n),some (.int m),some (.ref t),x5,some (.ref l),x7,x8,x9] g=.nx [some (.fl (ns.map .int)),some (.ref a),some (.int n),some (.int m),some (.ref t),x5,some (.ref l),x7,x8',some d] ((g.set a (.lst [.int (k+1)])).set l (.lst (row++[d]))):=by
 obtain⟨mm,m1,m2,e⟩:=Jf ns a k g ga hk hk2
 have gl1:(g.set a (.lst [.int (k+1)]))[l]?=some (.lst row):=by rw[Uy hal];exact gl
 generalize g.set a (.lst [.int (k+1)])=g1 at e gl1 ⊢
 obtain⟨w,hw,ww⟩:=QjK (mm/100) g1
 have hm':(0:Int)<m:=by omega
 have hn':(0:Int)<n:=by omega
 have s1:mAsg (gSet 8) (Qn QV (Qa (mVar 0) (Qa (mVar 1) mNil))) [some (.fl (ns.map .int)),some (.ref a),some (.int n),some (.int m),some (.ref t),x5,some (.ref l),x7,x8,x9] g=.nx [some (.fl (ns.map .int)),some (.ref a),some (.int n),some (.int m),some (.ref t),x5,some (.ref l),x7,some (.int mm),x9] g1 :=
  Qw (by rw[Qy (ds:=[.fl (ns.map .int),.ref a]) (g':=g) rfl];exact e)
 have v2:(mOpA pTup (Qa (mOp2 pMod (mOp2 Q7 (mVar 8) (mLit (.int 9))) (mVar 3)) (Qa (mOp2 pIx (mLit (.str "lr")) (mOp2 pMod (mOp2 Q7 (mVar 8) (mLit (.int 100))) (mLit (.int 2)))) (Qa (mOp2 pMod (mOp2 Q7 (mVar 8) (mLit (.int 300))) (mVar 2)) mNil)))) [some (.fl (ns.map .int)),some (.ref a),some (.int n),some (.int m),some (.ref t),x5,some (.ref l),x7,some (.int mm),x9] g1=.ok (.tup [.int (mm/9%m),.str w,.int (mm/300%n)]) g1:=by
  simp[mOpA,Qa,mNil,mOp2,mVar,mLit,Res.bind,Q7,pMod,hm',hn',hw,pTup,SZ,hm,hn]
 have s2:mAsg (gSet 9) (mOpA pTup (Qa (mOp2 pMod (mOp2 Q7 (mVar 8) (mLit (.int 9))) (mVar 3)) (Qa (mOp2 pIx (mLit (.str "lr")) (mOp2 pMod (mOp2 Q7 (mVar 8) (mLit (.int 100))) (mLit (.int 2)))) (Qa (mOp2 pMod (mOp2 Q7 (mVar 8) (mLit (.int 300))) (mVar 2)) mNil)))) [some (.fl (ns.map .int)),some (.ref a),some (.int n),some (.int m),some (.ref t),x5,some (.ref l),x7,some (.int mm),x9] g1=.nx [some (.fl (ns.map .int)),some (.ref a),some (.int n),some (.int m),some (.ref t),x5,some (.ref l),x7,some (.int mm),some (.tup [.int (mm/9%m),.str w,.int (mm/300%n)])] g1:=Qw v2
 have t3:Qk (mOp2 pEq (mOp2 pMod (mVar 8) (mLit (.int 9))) (mLit (.int 0))) [some (.fl (ns.map .int)),some (.ref a),some (.int n),some (.int m),some (.ref t),x5,some (.ref l),x7,some (.int mm),some (.tup [.int (mm/9%m),.str w,.int (mm/300%n)])] g1=.ok (mm%9 == 0) g1:=by
  simp[Qk,mOp2,mVar,mLit,Res.bind,pMod,eq_int]
 unfold Q3
 by_cases h9:mm%9=0
 ·refine⟨.non,some (.int mm),.inl rfl,?_⟩
  rw[ZR s1,ZR s2,ZR (σ':=[some (.fl (ns.map .int)),some (.ref a),some (.int n),some (.int m),some (.ref t),x5,some (.ref l),x7,some (.int mm),some .non]) (g':=g1) ?_]
  ·exact J4 rfl rfl gl1 hz
  ·rw[Qa0 (g':=g1) (t3.trans (by simp[h9]))];rfl
 ·refine⟨.tup [.int (mm/9%m),.str w,.int (mm/300%n)],some (.int mm),.inr ⟨_,_,w,rfl,U7 _ (by omega),U2 _ hm',U7 _ (by omega),U2 _ hn',ww⟩,?_⟩
  rw[ZR s1,ZR s2,ZR (σ':=[some (.fl (ns.map .int)),some (.ref a),some (.int n),some (.int m),some (.ref t),x5,some (.ref l),x7,some (.int mm),some (.tup [.int (mm/9%m),.str w,.int (mm/300%n)])]) (g':=g1) ?_]
  ·exact J4 rfl rfl gl1 hz
  ·rw[QbH (g':=g1) (t3.trans (by simp[h9]))];rfl
theorem QbI{n:Nat}(h:n<=1000):n<SZ:=Nat.lt_of_le_of_lt h (by decide)
theorem QeY{n:Nat}(h:n<=1000):inR (n:Int):=by
 have:(n:Int)<=1000:=by exact_mod_cast h
 constructor <;> omega
theorem J5{a:ME}{n:Nat}{σ:S3}{g g':G}(h:a σ g=.ok (.int n) g')(hr:inR (n:Int)):Q9 a σ g=.ok (Zv 0 n) g':=by
 unfold Q9;rw[h,Res.bind_ok];dsimp only;rw[Uf hr,UX]
theorem YY{it:MI}{t:MG}{body:MS}{src:Src}{σ:S3}{g g':G}(h:it σ g=.ok src g'):mFor it t body σ g=forL src t body (src.top+1) 0 σ g':=by
 unfold mFor;rw[h]
theorem Qf7(ns:List Int)(a l t:Nat)(k:Int)(n m:Nat)(x5 x7 x8 x9:Option D)(g:G)(hn:0<n)(hm:0<m)(hm8:m<=8)(ga:g[a]?=some (.lst [.int k]))(gl:g[l]?=some (.lst []))(hal:a≠l)(hk:0<=k)(hk2:k+m<1000000000):
  ∃row y7 y8 y9 g',mFor (Q9 (mVar 3)) (gSet 7) Q3 [some (.fl (ns.map .int)),some (.ref a),some (.int n),some (.int m),some (.ref t),x5,some (.ref l),x7,x8,x9] g=.nx [some (.fl (ns.map .int)),some (.ref a),some (.int n),some (.int m),some (.ref t),x5,some (.ref l),y7,y8,y9] g' /\
   row.length=m/\(∀d∈row,entOk d n m)/\Keeps [a,l] g g'/\g'[a]?=some (.lst [.int (k+m)])/\g'[l]?=some (.lst row):=by
 have hr:inR (m:Int):=QeY (by omega)
 have hf:mFor (Q9 (mVar 3)) (gSet 7) Q3 [some (.fl (ns.map .int)),some (.ref a),some (.int n),some (.int m),some (.ref t),x5,some (.ref l),x7,x8,x9] g=forL (Zv 0 m) (gSet 7) Q3 (m+1) 0 [some (.fl (ns.map .int)),some (.ref a),some (.int n),some (.int m),some (.ref t),x5,some (.ref l),x7,x8,x9] g:=YY (J5 rfl hr)
 rw[hf]
 obtain⟨σ',g',e,row,y7,y8,y9,h1,h2,h3,h4,h5,h6⟩:=JZ (t:=gSet 7) (body:=Q3) (lo:=0) (n:=m) (σ:=[some (.fl (ns.map .int)),some (.ref a),some (.int n),some (.int m),some (.ref t),x5,some (.ref l),x7,x8,x9]) (g:=g)
  (λi σ g1=>∃row y7 y8 y9,σ=[some (.fl (ns.map .int)),some (.ref a),some (.int n),some (.int m),some (.ref t),x5,some (.ref l),y7,y8,y9]/\row.length=i/\(∀d∈row,entOk d n m)/\Keeps [a,l] g g1/\g1[a]?=some (.lst [.int (k+i)])/\g1[l]?=some (.lst row))
  ⟨[],x7,x8,x9,rfl,rfl,by simp,.refl,by simpa using ga,gl⟩ (λi σ g1 hi ⟨row,y7,y8,y9,h1,h2,h3,h4,h5,h6⟩=>by
   subst h1
   obtain⟨d,x8',hd,e⟩:=QeX ns a l t (k+i) n m x5 (some (.int (0+i))) y8 y9 row g1 hn hm h5 h6 hal (by omega) (by omega) (QbI (by omega))
   refine⟨_,_,_,rfl,e,row++[d],_,x8',_,rfl,by simp[h2],?_,?_,?_,?_⟩
   ·intro x hx
    rcases UB.mp hx with z|z
    ·exact h3 x z
    ·rw[Ug.mp z];exact hd
   ·exact h4.trans (((Keeps.set a _).mono (by simp)).trans ((Keeps.set l _).mono (by simp)))
   ·rw[Uy (Ne.symm hal),Q8 h5]
    simp;omega
   ·refine Q8 (o:=.lst row) ?_
    rw[Uy hal];exact h6)
 exact⟨row,y7,y8,y9,g',by rw[e,h1],h2,h3,h4,h5,h6⟩
theorem om1{a b c:Nat}(h1:a<b)(h2:b<c):a≠c:=by omega
theorem om2{k x:Int}(h1:0<=k)(h2:0<=x):0<=k+x:=by omega
theorem om3{k x:Int}{m:Nat}(h1:k<900000000)(h2:x<=96)(h3:m<=8):k+x+m<1000000000:=by omega
theorem om7{a b c:Nat}{ds:List D}(h2:ds.length=a)(hi:a<b)(h3:b<=12):ds.length<=1000:=by omega
def tabOf(N:Nat)(g:G)(t:Nat)(rows:List (List D)):Prop:=N<=t/\∃ds,g[t]?=some (.lst ds)/\ds.length=rows.length/\∀(i:Nat) x r,ds[i]?=some x->rows[i]?=some r->∃n,x=.ref n/\N<=n/\n≠t/\g[n]?=some (.lst r)
theorem tabOf.rows{N:Nat}{g:G}{t:Nat}{rows:List (List D)}(h:tabOf N g t rows):rowsOf g (.ref t) rows:=by
 obtain⟨_,ds,h1,h2,h3⟩:=h
 refine⟨true,ds,by simp[Qs,h1],h2,λi x r hx hr=>?_⟩
 obtain⟨n,rfl,_,_,h4⟩:=h3 i x r hx hr
 exact⟨true,by simp[Qs,h4]⟩
theorem tabOf.mono{N:Nat}{S:List Nat}{g g1:G}{t:Nat}{rows:List (List D)}(h:tabOf N g t rows)(k:Keeps S g g1)(hS:∀n∈S,n<N):tabOf N g1 t rows:=by
 obtain⟨h0,ds,h1,h2,h3⟩:=h
 refine⟨h0,ds,k.at' t _ (λz=>by have:=hS t z;omega) h1,h2,λi x r hx hr=>?_⟩
 obtain⟨n,h4,h5,h6,h7⟩:=h3 i x r hx hr
 exact⟨n,h4,h5,h6,k.at' n _ (λz=>by have:=hS n z;omega) h7⟩
theorem Qf8(ns:List Int)(a:Nat)(k:Int)(n m:Nat)(g:G)(hn:0<n)(hm:0<m)(hn12:n<=12)(hm8:m<=8)(ga:g[a]?=some (.lst [.int k]))(hk:0<=k)(hk2:k<900000000):
  ∃rows g',JW [.fl (ns.map .int),.ref a,.int n,.int m] g=.ok (.ref g.length) g'/\Keeps [a] g g'/\g'[a]?=some (.lst [.int (k+n*m)])/\tabOf g.length g' g.length rows/\rows.length=n/\(∀r∈rows,r.length=m)/\∀r∈rows,∀d∈r,entOk d n m:=by
 have hr:inR (n:Int):=QeY (by omega)
 have hal:a<g.length:=Q0 ga
 have hz0:([]:List D).length<=SZ:=by simp
 have s1:mAsg (gSet 4) (mOpA newL mNil) [some (.fl (ns.map .int)),some (.ref a),some (.int n),some (.int m),none,none,none,none,none,none] g=.nx [some (.fl (ns.map .int)),some (.ref a),some (.int n),some (.int m),some (.ref g.length),none,none,none,none,none] (g++[.lst []]) :=
  Qw (by simp[mOpA,mNil,Res.bind,newL])
 have kp:Keeps [a] g (g++[.lst []]):=.push _
 have ga1:(g++[.lst []])[a]?=some (.lst [.int k]):=(Keeps.push (S:=[]) (.lst [])).at' a _ (by simp) ga
 have gt1:(g++[.lst []])[g.length]?=some (.lst []):=Qm _
 have hl1:g.length<(g++[GO.lst []]).length:=by simp
 generalize g++[.lst []]=g1 at s1 kp ga1 gt1 hl1
 obtain⟨σ',g',e,ds,rows,y5,y6,y7,y8,y9,h1,h2,h3,h4,h5,h6,h7,h8,h9⟩:=JZ (t:=gSet 5) (body:=ZV) (lo:=0) (n:=n) (σ:=[some (.fl (ns.map .int)),some (.ref a),some (.int n),some (.int m),some (.ref g.length),none,none,none,none,none]) (g:=g1)
  (λi σ g2=>∃ds rows y5 y6 y7 y8 y9,σ=[some (.fl (ns.map .int)),some (.ref a),some (.int n),some (.int m),some (.ref g.length),y5,y6,y7,y8,y9]/\ds.length=i/\rows.length=i/\Keeps [a,g.length] g1 g2/\g2[a]?=some (.lst [.int (k+i*m)])/\g2[g.length]?=some (.lst ds) /\
   (∀(i:Nat) x r,ds[i]?=some x->rows[i]?=some r->∃n,x=.ref n/\g.length<n/\g2[n]?=some (.lst r))/\(∀r∈rows,r.length=m)/\∀r∈rows,∀d∈r,entOk d n m)
  ⟨[],[],none,none,none,none,none,rfl,rfl,rfl,.refl,by simpa using ga1,gt1,by simp,by simp,by simp⟩ (λi σ g2 hi ⟨ds,rows,y5,y6,y7,y8,y9,h1,h2,h3,h4,h5,h6,h7,h8,h9⟩=>by
   subst h1
   have hl2:g.length<g2.length:=Q0 h6
   have q1:mAsg (gSet 6) (mOpA newL mNil) [some (.fl (ns.map .int)),some (.ref a),some (.int n),some (.int m),some (.ref g.length),some (.int (0+i)),y6,y7,y8,y9] g2=.nx [some (.fl (ns.map .int)),some (.ref a),some (.int n),some (.int m),some (.ref g.length),some (.int (0+i)),some (.ref g2.length),y7,y8,y9] (g2++[.lst []]) :=
    Qw (by simp[mOpA,mNil,Res.bind,newL])
   have k3:Keeps [] g2 (g2++[.lst []]):=.push _
   have gl3:(g2++[.lst []])[g2.length]?=some (.lst []):=Qm _
   generalize g2++[.lst []]=g3 at q1 k3 gl3
   have him:(i:Int)*m<=96:=by
    have:i*m<=12*8:=Nat.mul_le_mul (by omega) hm8
    exact_mod_cast this
   have him0:(0:Int)<=(i:Int)*m:=Int.mul_nonneg (by omega) (by omega)
   obtain⟨row,z7,z8,z9,g4,e4,r1,r2,r3,r4,r5⟩:=Qf7 ns a g2.length g.length (k+i*m) n m (some (.int (0+i))) y7 y8 y9 g3 hn hm hm8 (k3.at' a _ (by simp) h5) gl3 (om1 hal hl2) (om2 hk him0) (om3 hk2 him hm8)
   have gt4:g4[g.length]?=some (.lst ds):=r3.at' _ _ (by simp;omega) (k3.at' _ _ (by simp) h6)
   refine⟨_,[some (.fl (ns.map .int)),some (.ref a),some (.int n),some (.int m),some (.ref g.length),some (.int (0+i)),some (.ref g2.length),z7,z8,z9],g4.set g.length (.lst (ds++[.ref g2.length])),rfl,?_,ds++[.ref g2.length],rows++[row],_,_,z7,z8,z9,rfl,by simp[h2],by simp[h3],?_,?_,?_,?_,?_,?_⟩
   ·show ZV [some (.fl (ns.map .int)),some (.ref a),some (.int n),some (.int m),some (.ref g.length),some (.int (0+i)),y6,y7,y8,y9] g2=_
    unfold ZV
    rw[ZR q1,ZR e4]
    exact J4 rfl rfl gt4 (QbI (om7 (c:=0) h2 hi hn12))
   ·refine⟨by rw[UR];exact Uo h4.len (Uo k3.len r3.len),λb o hb eb=>?_⟩
    have hb':b≠a/\b≠g.length:=by simpa using hb
    have e2:=h4.at' b o hb eb
    have:b<g2.length:=Q0 e2
    rw[Uy (Ne.symm hb'.2)]
    exact r3.at' b o (by simp;omega) (k3.at' b o (by simp) e2)
   ·rw[Uy (by omega),r4]
    have:k+(i:Int)*m+m=k+((i+1:Nat):Int)*m:=by
     rw[Int.natCast_add,Int.add_mul];simp;omega
    rw[this]
   ·exact Q8 gt4
   ·intro j x r hx hr'
    have key:∀b o,g.length<b->g2[b]?=some o->(g4.set g.length (.lst (ds++[.ref g2.length])))[b]?=some o:=λb o hb eb=>by
     have:b<g2.length:=Q0 eb
     rw[Uy (by omega)]
     exact r3.at' b o (by simp;omega) (k3.at' b o (by simp) eb)
    by_cases hj:j<i
    ·rw[UE (by omega)]at hx hr'
     obtain⟨b,hb1,hb2,hb3⟩:=h7 j x r hx hr'
     exact⟨b,hb1,hb2,key b _ hb2 hb3⟩
    ·have hji:j=i:=by
      have:=(Ui.mp hx).1
      simp at this;omega
     subst hji
     rw[UH (by omega),h2]at hx
     rw[UH (by omega),h3]at hr'
     simp at hx hr'
     subst hx hr'
     exact⟨g2.length,rfl,hl2,by rw[Uy (by omega)];exact r5⟩
   ·intro r hr'
    rcases UB.mp hr' with z|z
    ·exact h8 r z
    ·rw[Ug.mp z];exact r1
   ·intro r hr'
    rcases UB.mp hr' with z|z
    ·exact h9 r z
    ·rw[Ug.mp z];exact r2)
 refine⟨rows,g',?_,?_,h5,⟨Ul _,ds,h6,by omega,λi x r hx hr'=>?_⟩,h3,h8,h9⟩
 ·refine QR rfl ?_
  show JV [some (.fl (ns.map .int)),some (.ref a),some (.int n),some (.int m),none,none,none,none,none,none] g=_
  unfold JV
  rw[ZR s1,ZR (σ':=σ') (g':=g') ?_]
  ·subst h1;rfl
  ·rw[<-e]
   exact YY (J5 rfl hr)
 ·refine⟨Uo kp.len h4.len,λb o hb eb=>?_⟩
  have:b<g.length:=Q0 eb
  exact h4.at' b o (by simp at hb ⊢;omega) (kp.at' b o hb eb)
 ·obtain⟨b,hb1,hb2,hb3⟩:=h7 i x r hx hr'
  exact⟨b,hb1,by omega,by omega,hb3⟩
theorem Qf{a b:MS}{σ:S3}{g:G}{R:Out}(σ':S3)(g':G)(h:a σ g=.nx σ' g')(h2:b σ' g'=R):mSeq a b σ g=R:=(ZR h).trans h2
theorem ift{c:MT}{a b:MS}{σ:S3}{g:G}{R:Out}(g':G)(h:c σ g=.ok true g')(h2:a σ g'=R):mIf c a b σ g=R:=(Qa0 h).trans h2
theorem iff'{c:MT}{a b:MS}{σ:S3}{g:G}{R:Out}(g':G)(h:c σ g=.ok false g')(h2:b σ g'=R):mIf c a b σ g=R:=(QbH h).trans h2
theorem eq_str(s t:Str)(g:G):pEq (.str s) (.str t) g=.ok (.bl (s == t)) g:=rfl
theorem modP{i j:Int}{g:G}(h:0<j):pMod (.int i) (.int j) g=.ok (.int (i%j)) g:=Uf h
theorem divP{i j:Int}{g:G}(h:0<j)(h2:j<=1000000):Q7 (.int i) (.int j) g=.ok (.int (i/j)) g:=Uf ⟨h,by omega⟩
theorem QbJ{k n:Nat}{b:MS}{ds:List D}{x:Xc}{σ:S3}{g g':G}(hl:ds.length=k)(h:b (ds.map some++List.replicate n none) g=.raise x σ g'):mDef k n b ds g=.raise x g':=by unfold mDef;rw[Uf hl,h]
theorem Qg{f:D->D->G->Res D}{a b:ME}{σ:S3}{x y:D}{g g1 g2:G}{R:Res D}(ha:a σ g=.ok x g1)(hb:b σ g1=.ok y g2)(h:f x y g2=R):mOp2 f a b σ g=R:=by unfold mOp2;rw[ha,Res.bind_ok,hb,Res.bind_ok,h]
theorem QI{f:D->G->Res D}{a:ME}{σ:S3}{x:D}{g g1:G}{R:Res D}(ha:a σ g=.ok x g1)(h:f x g1=R):mOp1 f a σ g=R:=by unfold mOp1;rw[ha,Res.bind_ok,h]
theorem QL{a:ME}{σ:S3}{b:Bool}{g g1:G}(ha:a σ g=.ok (.bl b) g1):Qk a σ g=.ok b g1:=by unfold Qk;rw[ha,Res.bind_ok]
theorem Qo{a:ME}{r:MA}{x:D}{xs:List D}{σ:S3}{g g1 g2:G}(h:a σ g=.ok x g1)(h2:r σ g1=.ok xs g2):Qa a r σ g=.ok (x::xs) g2:=by
 unfold Qa;rw[h,Res.bind_ok,h2];rfl
theorem QeZ{n:Nat}{ds:List D}{y:D}{σ:S3}{g:G}{o e:ME}(ho:o σ g=.ok (.ref n) g)(h:g[n]?=some (.lst ds))(he:e σ g=.ok y g)(hz:ds.length<SZ):
  YO (Yf o e) σ g=.nx σ (g.set n (.lst (ds++[y]))):=by
 refine Qcj (d:=.non) ?_
 simp[Yf,ho,he,Res.bind,h,hz]
theorem Qe0{src:Src}{ds:List D}{e:ME}{g:G}{σc:S3}{rows':List (List D)}(ht:src.top=ds.length)(hs:∀g1 i,Keeps [] g g1->src.at' g1 i=some ds[i]?)(hlen:rows'.length=ds.length)(he:∀(i:Nat) d r,ds[i]?=some d->rows'[i]?=some r->∀g1,Keeps [] g g1->e (some d::σc) g1=.ok (.ref g1.length) (g1++[.lst r])):
  ∃(ls:List Nat)(g':G),ZT src (gSet 0) QP e (src.top+1) 0 (none::σc) g []=.ok (ls.map .ref) g'/\Keeps [] g g'/\ls.length=rows'.length/\ls.Nodup/\∀(i n:Nat) r,ls[i]?=some n->rows'[i]?=some r->g.length<=n/\n<g'.length/\g'[n]?=some (.lst r):=by
 obtain⟨xs,σ',g',h1,ls,h2,h3,h4,h5,h6,_⟩:=ZQ (src:=src) (t:=gSet 0) (c:=QP) (e:=e) (n:=ds.length)
  (λi σ' g1 acc=>∃ls:List Nat,acc=ls.map D.ref/\ls.length=i/\ls.Nodup/\Keeps [] g g1/\(∀(j n:Nat),ls[j]?=some n->g.length<=n/\n<g1.length/\∀r,rows'[j]?=some r->g1[n]?=some (.lst r))/\∃u,σ'=u::σc) (λi σ' g1 acc hi ⟨ls,h1,h2,h3,h4,h5,u,h6⟩=>by
   subst h6
   have hr:rows'[i]?=some (rows'[i]'(by omega)):=by simp[hlen,hi]
   have e1:=he i ds[i] _ (by simp[hi]) hr g1 h4
   refine⟨ds[i],some ds[i]::σc,g1,by rw[hs g1 i h4];simp[hi],rfl,.inl ⟨.ref g1.length,g1++[.lst (rows'[i]'(by omega))],rfl,e1,ls++[g1.length],by simp[h1],by simp[h2],?_,h4.trans (.push _),?_,_,rfl⟩⟩
   ·rw[List.nodup_append]
    refine⟨h3,by simp,λa ha b hb=>?_⟩
    obtain⟨j,hj,rfl⟩:=Rc ha
    have:=(h5 j ls[j] (by simp[hj])).2.1
    have:b=g1.length:=by simpa using hb
    omega
   ·intro j n hn
    by_cases hj:j<ls.length
    ·rw[UE hj]at hn
     obtain⟨q1,q2,q3⟩:=h5 j n hn
     exact⟨q1,by simp;omega,λr hr=>(Keeps.push (S:=[]) _).at' n _ (by simp) (q3 r hr)⟩
    ·have hj':j=i:=by
      have:=(Ui.mp hn).1
      simp at this;omega
     subst hj'
     rw[UH (by omega),h2]at hn
     simp at hn
     subst hn
     exact⟨h4.len,by simp,λr hr'=>by rw[hr]at hr';cases hr';exact Qm _⟩) (λσ g1 acc ⟨ls,h1,h2,h3,h4,_⟩=>by rw[hs g1 _ h4];simp) (src.top+1) 0 (none::σc) g [] (by omega) (by omega) ⟨[],rfl,rfl,.nil,.refl,by simp,none,rfl⟩
 subst h2
 exact⟨ls,g',h1,h5,by omega,h4,λi n r hn hr=>let ⟨q1,q2,q3⟩:=h6 i n hn;⟨q1,q2,q3 r hr⟩⟩
theorem entOk.good{rows:List (List D)}{n m:Nat}(hn:0<n)(hm:0<m)(h1:rows.length=n)(h2:∀r∈rows,r.length=m)(h3:∀r∈rows,∀d∈r,entOk d n m):ZB rows=true:=by
 cases rows with
 |nil=>simp at h1;omega
 |cons q rest =>
  have hq:=h2 q (Up ..)
  unfold ZB
  rw[UC,Ux]
  refine⟨by simp;intro z;rw[z]at hq;simp at hq;omega,λx hx=>?_⟩
  unfold ZE
  rw[UC,Ux]
  exact⟨by simp[h2 x hx,hq],λd hd=>by rw[h1,hq];exact(h3 x hx d hd).ent⟩
theorem Z9{it:MI}{n:Nat}{cap:List Nat}{t:MG}{c:MT}{e:ME}{σ:S3}{g g1 g2:G}{src:Src}{ds:List D}{σ0:S3}(h1:it σ g=.ok src g1)(hz:src.top<=SZ)(hc:capt n cap σ=σ0)(h2:ZT src t c e (src.top+1) 0 σ0 g1 []=.ok ds g2):Zm it n cap t c e σ g=.ok (.ref g2.length) (g2++[.lst ds]):=by
 simp only[Zm,h1,hz,hc,h2,Wd]
theorem QhF{g:G}{d1 d2:D}{b1 b2:Bool}{xs ys:List D}(h1:Qs g d1=some (b1,xs))(h2:Qs g d2=some (b2,ys))(hl:xs.length=ys.length):
  ∃src,Qcy d1 d2 g=.ok src g/\src.top=xs.length/\∀g1,Qs g1 d1=some (b1,xs)->Qs g1 d2=some (b2,ys)->src.at' g1 xs.length=some none/\∀(i:Nat) x y,xs[i]?=some x->ys[i]?=some y->src.at' g1 i=some (some (.tup [x,y])):=by
 unfold Qcy
 rw[h1,h2]
 refine⟨_,rfl,by simp[hl],λg1 q1 q2=>⟨?_,λi x y hx hy=>?_⟩⟩
 ·dsimp only;rw[q1,q2];dsimp only;rw[Ta (Ul _)]
 ·dsimp only;rw[q1,q2];dsimp only;rw[hx,hy]
theorem Qe1{a:MT}{σ:S3}{g g1:G}(h1:a σ g=.ok true g1):Zl a σ g=.ok false g1:=by unfold Zl;rw[h1];rfl
section
variable{σ:S3}{g:G}
@[simp] theorem QjV{a b:MS}:mSeq a b σ g=(match a σ g with | .nx σ' g'=>b σ' g'|o=>o):=rfl
@[simp] theorem Qi5{i:Nat}{a:ME}:mAsg (gSet i) a σ g=(match a σ g with | .ok d g'=>.nx (σ.set i (some d)) g' | .raise e g'=>.raise e σ g' | .stuck=>.stuck):=rfl
@[simp] theorem Qka{c:MT}{a b:MS}:mIf c a b σ g=(match c σ g with | .ok t g'=>if t=true then a σ g' else b σ g' | .raise e g'=>.raise e σ g' | .stuck=>.stuck):=rfl
@[simp] theorem QjW{a:ME}:mRet a σ g=(match a σ g with | .ok d g'=>.rt d g' | .raise e g'=>.raise e σ g' | .stuck=>.stuck):=rfl
@[simp] theorem QjL{a:ME}:YO a σ g=(match a σ g with | .ok _ g'=>.nx σ g' | .raise e g'=>.raise e σ g' | .stuck=>.stuck):=rfl
@[simp] theorem QjM:QjA σ g=.rt .non g:=rfl
@[simp] theorem QjN:QO σ g=.nx σ g:=rfl
@[simp] theorem QjX{i:Nat}:mVar i σ g=(match σ[i]? with|some (some d)=>.ok d g|_=>.stuck):=rfl
@[simp] theorem Qi6{d:D}:mLit d σ g=.ok d g:=rfl
@[simp] theorem QjY{f:D->G->Res D}{a:ME}:mOp1 f a σ g=(match a σ g with | .ok x g1=>f x g1 | .raise e g'=>.raise e g' | .stuck=>.stuck):=by unfold mOp1 Res.bind;cases a σ g <;> rfl
@[simp] theorem QjZ{f:D->D->G->Res D}{a b:ME}:mOp2 f a b σ g=(match a σ g with | .ok x g1=>(match b σ g1 with | .ok y g2=>f x y g2 | .raise e g'=>.raise e g' | .stuck=>.stuck) | .raise e g'=>.raise e g' | .stuck=>.stuck):=by unfold mOp2 Res.bind;cases a σ g with|ok x g1=>dsimp only;cases b σ g1 <;> rfl|_=>rfl
@[simp] theorem Qj0:mNil σ g=.ok [] g:=rfl
@[simp] theorem QhG{a:ME}{r:MA}:Qa a r σ g=(match a σ g with | .ok x g1=>(match r σ g1 with | .ok xs g2=>.ok (x::xs) g2 | .raise e g'=>.raise e g' | .stuck=>.stuck) | .raise e g'=>.raise e g' | .stuck=>.stuck):=by unfold Qa Res.bind;cases a σ g with|ok x g1=>dsimp only;cases r σ g1 <;> rfl|_=>rfl
@[simp] theorem Qi7{f:List D->G->Res D}{a:MA}:mOpA f a σ g=(match a σ g with | .ok x g1=>f x g1 | .raise e g'=>.raise e g' | .stuck=>.stuck):=by unfold mOpA Res.bind;cases a σ g <;> rfl
@[simp] theorem QjO{f:MF}{a:MA}:Qn f a σ g=(match a σ g with | .ok x g1=>f x g1 | .raise e g'=>.raise e g' | .stuck=>.stuck):=by unfold Qn Res.bind;cases a σ g <;> rfl
@[simp] theorem QjP{a:ME}:Qk a σ g=(match a σ g with | .ok (.bl b) g1=>.ok b g1 | .raise e g'=>.raise e g'|_=>.stuck):=by unfold Qk Res.bind;cases a σ g with|ok d g1=>cases d <;> rfl|_=>rfl
@[simp] theorem QjQ{a b:MT}:ZC a b σ g=(match a σ g with | .ok c g1=>if c=true then b σ g1 else .ok false g1 | .raise e g'=>.raise e g' | .stuck=>.stuck):=by unfold ZC Res.bind;cases a σ g <;> rfl
@[simp] theorem Qj1{a b:MT}:mOrT a b σ g=(match a σ g with | .ok c g1=>if c=true then .ok true g1 else b σ g1 | .raise e g'=>.raise e g' | .stuck=>.stuck):=by unfold mOrT Res.bind;cases a σ g <;> rfl
@[simp] theorem QjR{a:MT}:Zl a σ g=(match a σ g with | .ok c g1=>.ok (!c) g1 | .raise e g'=>.raise e g' | .stuck=>.stuck):=by unfold Zl Res.bind;cases a σ g <;> rfl
@[simp] theorem Qj2{c:MT}{a b:ME}:mIfE c a b σ g=(match c σ g with | .ok t g1=>if t=true then a σ g1 else b σ g1 | .raise e g'=>.raise e g' | .stuck=>.stuck):=by unfold mIfE Res.bind;cases c σ g <;> rfl
@[simp] theorem Qj3{a b:ME}:mAnd a b σ g=(match a σ g with | .ok (.bl c) g1=>if c=true then b σ g1 else .ok (.bl false) g1 | .raise e g'=>.raise e g'|_=>.stuck):=by unfold mAnd Res.bind;cases a σ g with|ok d g1=>cases d <;> rfl|_=>rfl
@[simp] theorem QgE{i j:Int}:pAdd (.int i) (.int j) g=.ok (.int (i+j)) g:=rfl
@[simp] theorem Qj4{i j:Int}:pSub (.int i) (.int j) g=.ok (.int (i-j)) g:=rfl
@[simp] theorem Qj5{i:Int}:pNeg (.int i) g=.ok (.int (-i)) g:=rfl
@[simp] theorem Qkb{i j:Int}:pLt (.int i) (.int j) g=.ok (.bl (decide (i<j))) g:=rfl
@[simp] theorem Qkc{i j:Int}:pLe (.int i) (.int j) g=.ok (.bl (decide (i<=j))) g:=rfl
@[simp] theorem Qi8{i j:Int}:pGt (.int i) (.int j) g=.ok (.bl (decide (j<i))) g:=rfl
@[simp] theorem Qkd{i j:Int}:pGe (.int i) (.int j) g=.ok (.bl (decide (j<=i))) g:=rfl
@[simp] theorem Qke{i j:Int}:pEq (.int i) (.int j) g=.ok (.bl (i == j)) g:=rfl
@[simp] theorem Qkf{i j:Int}:pNe (.int i) (.int j) g=.ok (.bl (!(i == j))) g:=rfl
theorem Yn{n:Nat}{ds:List D}(h:g[n]?=some (.lst ds)):pLen (.ref n) g=.ok (.int ds.length) g:=by simp[pLen,h]
theorem ix_tup{ds:List D}{n:Nat}{d:D}(h:ds[n]?=some d):pIx (.tup ds) (.int n) g=.ok d g:=by
 obtain⟨this,e⟩:=Ui.mp h
 simp[pIx,atD,ixD,this,e]
@[simp] theorem Qj6{d:D}{ds:List D}:pIx (.tup (d::ds)) (.int 0) g=.ok d g:=ix_tup (n:=0) rfl
@[simp] theorem Qj7{c d:D}{ds:List D}:pIx (.tup (c::d::ds)) (.int 1) g=.ok d g:=ix_tup (n:=1) rfl
@[simp] theorem Qj8{b c d:D}{ds:List D}:pIx (.tup (b::c::d::ds)) (.int 2) g=.ok d g:=ix_tup (n:=2) rfl
@[simp] theorem Qj9{a b c d:D}{ds:List D}:pIx (.tup (a::b::c::d::ds)) (.int 3) g=.ok d g:=ix_tup (n:=3) rfl
end
noncomputable def sI(i:Int):Str:=Str.ofString (toString i)
theorem J7(a b:Str):(a++b).length=a.length+b.length:=Array.size_append
theorem Jg(a b:Str):(a++b).cps.toList=a.cps.toList++b.cps.toList:=RU
theorem Qaw(l:List Nat):(ofL l).cps.toList=l:=rfl
theorem QbK(s:Str):ofL s.cps.toList=s:=by unfold ofL;rw[WH]
theorem J8(s:Str):s.cps.toList.length=s.length:=Tk
theorem QcY(l:List Nat):(ofL l).length=l.length:=by rw[<-J8];rfl
theorem Qe2(ss:List Str):Qbx (ss.map D.str)=some ss:=by
 induction ss with
 |nil=>rfl
 |cons s r ih=>rw[UO,Qbx,ih];rfl
theorem Qe3{ss:List Str}{b:Nat}(h:∀s∈ss,s.length<=b):sumL ss<=ss.length*b:=by
 unfold sumL
 induction ss with
 |nil=>simp
 |cons s r ih =>
  rw[UO,List.sum_cons,Uz,Nat.succ_mul]
  have:=h s (Up ..)
  have:=ih λt ht=>h t (Uj _ ht)
  omega
theorem Ye{n:Nat}(h:n<=10000):n<=SZ:=Uo h (by decide)
noncomputable def figs:List Nat:=[48,49,50,51,52,53,54,55,56,57]
theorem Qi9:Str.ofString "0123456789" = ofL figs:=by decide +kernel
theorem s_0:Str.ofString "0" = ofL [48]:=by decide +kernel
theorem QgF:Str.ofString "-" = ofL [45]:=by decide +kernel
theorem s_sp:Str.ofString " " = ofL [32]:=by decide +kernel
theorem s_nl:Str.ofString "\n" = ofL [10]:=by decide +kernel
noncomputable def numB(l:List Nat):Bool:=(l.all λc=>decide (c∈figs)) && (decide (1<=l.length) && (decide (l.length<=60) && (l == [48] || !(l.headD 0 == 48))))
noncomputable def entP(c:Nat)(l:List Nat):Option (Nat×Nat):=match Z1 c l with
 |some p=>if (numB p.1 && numB p.2)=true then some (dval p.1,dval p.2) else none
 |none=>none
noncomputable def entI(l:List Nat):D:=match entP 108 l with
 |some p=>.tup [.int p.1,.str (ofL [108]),.int p.2]
 |none=>(match entP 114 l with
  |some p=>.tup [.int p.1,.str (ofL [114]),.int p.2]
  |none=>.non)
noncomputable def Yy(l:List Nat):Bool:=l == [45] || ((entP 108 l).isSome || (entP 114 l).isSome)
theorem QcZ{c:Nat}:∀{p:List Nat},c∉p->cutC c p=[p]
 |[],_=>rfl
 |a::r,h=>by
  unfold cutC
  rw[Uh (λz=>h (by rw[z];exact Up ..)),QcZ (λz=>h (Uj _ z))]
theorem QgG{c:Nat}(q:List Nat):∀{p:List Nat},c∉p->cutC c (p++c::q)=p::cutC c q
 |[],_=>by rw[RQ,cutC,Uf rfl]
 |a::r,h=>by
  rw[RG,cutC,Uh (λz=>h (by rw[z];exact Up ..)),QgG q (λz=>h (Uj _ z))]
theorem Qa1{c:Nat}:∀{ss:List Str},ss≠[]->(∀s∈ss,c∉s.cps.toList)->(cutC c (Str.join (ofL [c]) ss).cps.toList).map ofL=ss
 |[],h,_=>(h rfl).elim
 |[s],_,h=>by
  show(cutC c s.cps.toList).map ofL=[s]
  rw[QcZ (h s (Up ..)),Rn,QbK]
 |s::t::r,_,h=>by
  show(cutC c (s++ofL [c]++Str.join (ofL [c]) (t::r)).cps.toList).map ofL=_
  rw[Jg,Jg,Qaw,TZ,WF,QgG _ (h s (Up ..)),UO,QbK,Qa1 (TL t r) λx hx=>h x (Uj _ hx)]
theorem Qc0{sep:Str}{c:Nat}:∀{ss:List Str},c∈(Str.join sep ss).cps.toList->c∈sep.cps.toList\/∃s∈ss,c∈s.cps.toList
 |[],h=>by cases h
 |[s],h=>.inr ⟨s,Up ..,h⟩
 |s::t::r,h=>by
  have h:c∈(s++sep++Str.join sep (t::r)).cps.toList:=h
  rw[Jg,Jg,UB,UB]at h
  rcases h with(h|h)|h
  ·exact .inr ⟨s,Up ..,h⟩
  ·exact .inl h
  ·rcases Qc0 h with h|⟨x,hx,h⟩
   ·exact .inl h
   ·exact .inr ⟨x,Uj _ hx,h⟩
theorem Qa2{sep:Str}(hs:sep.length=1):∀ss:List Str,(Str.join sep ss).length<=sumL ss+ss.length
 |[]=>BB _
 |[s]=>by
  show s.length<=([s].map (·.length)).sum+1
  simp
 |s::t::r=>by
  show(s++sep++Str.join sep (t::r)).length<=((s::t::r).map (·.length)).sum+(t::r).length+1
  have:=Qa2 hs (t::r)
  rw[J7,J7,hs,UO,List.sum_cons]
  unfold sumL at this
  omega
theorem Qe4{sep:Str}{n:Nat}{ss:List Str}{g:G}(hs:sep.length=1)(h:g[n]?=some (.lst (ss.map .str)))(hz:sumL ss+ss.length<=10000):YF (.str sep) (.ref n) g=.ok (.str (Str.join sep ss)) g:=by
 unfold YF;dsimp only;rw[h];dsimp only;rw[Qe2];dsimp only
 rw[Uf ⟨by omega,Ye hz⟩]
theorem YZ{sep:Str}:∀{a b:List Str},a≠[]->b≠[]->Str.join sep (a++b)=Str.join sep a++sep++Str.join sep b
 |[],_,h,_=>(h rfl).elim
 |[s],[],_,h=>(h rfl).elim
 |[s],t::r,_,_=>rfl
 |s::t::r,b,_,h=>by
  show s++sep++Str.join sep ((t::r)++b)=s++sep++Str.join sep (t::r)++sep++Str.join sep b
  rw[YZ (TL _ _) h]
  have ap:∀x y z:Str,x++y++z=x++(y++z):=λx y z=>by
   have:(x++y++z).cps=(x++(y++z)).cps:=TQ
   obtain⟨⟩:=x;obtain⟨⟩:=y;obtain⟨⟩:=z
   exact TU Str.mk this
  simp only[ap]
noncomputable def figD:D->D
 |.str t=>.bl (match oneC t with
  |some c=>decide (c∈figs)
  |none=>false)
 |_=>.non
structure Asc(s:Str):Prop where
 a:(s.cps.toList.all λc=>decide (c<128))=true
 l:s.length<=100
theorem Jn(s:Str)(g:G)(h:Asc s):∃g',Q2 [.str s] g=.ok (.bl (numB s.cps.toList)) g'/\Keeps [] g g':=by
 obtain⟨ha,hl⟩:=h
 have hz:s.length<=SZ:=Ye (Uo hl (by decide))
 have hit:JT (mVar 0) [some (.str s)] g=.ok ⟨λ_ i=>some (s.cps.toList[i]?.map λc=>.str ⟨#[c]⟩),s.length⟩ g:=by
  unfold JT
  show(Res.ok (D.str s) g).bind _=_
  rw[Res.bind_ok]
  exact Uf ⟨ha,hz⟩
 obtain⟨g1,c1,k1⟩:=Yv (src:=⟨λ_ i=>some (s.cps.toList[i]?.map λc=>.str ⟨#[c]⟩),s.length⟩) (ds:=s.cps.toList.map λc=>.str ⟨#[c]⟩) (e:=mOp2 pInS (mVar 0) (mLit (.str "0123456789"))) (no:=0) (σ:=[]) (g:=g) (f:=figD) (by rw[Uc,J8]) (λg1 i _=>by rw[UA]) (λd hd g1 _=>by
  obtain⟨c,_,rfl⟩:=UW.mp hd
  exact⟨g1,by rw[Qi9];rfl,.refl⟩)
 have em:(s.cps.toList.map λc=>D.str ⟨#[c]⟩).map figD=s.cps.toList.map λc=>.bl (decide (c∈figs)):=by
  rw[TC];rfl
 rw[em]at c1
 have c2:=Z9 (n:=1) (cap:=[]) (t:=gSet 0) (c:=QP) (e:=mOp2 pInS (mVar 0) (mLit (.str "0123456789"))) (σ0:=[none]) hit hz rfl c1
 have k2:Keeps [] g (g1++[.lst (s.cps.toList.map λc=>.bl (decide (c∈figs)))]):=k1.trans (.push _)
 have d2:(g1++[.lst (s.cps.toList.map λc=>D.bl (decide (c∈figs)))])[g1.length]?=some (.lst (s.cps.toList.map λc=>.bl (decide (c∈figs)))):=Qm _
 generalize g1++[.lst (s.cps.toList.map λc=>D.bl (decide (c∈figs)))]=g2 at c2 k2 d2
 have t1:Zl (Qk (mOp1 pAll (Zm (JT (mVar 0)) 1 [] (gSet 0) QP (mOp2 pInS (mVar 0) (mLit (.str "0123456789")))))) [some (.str s)] g=.ok (!(s.cps.toList.all λc=>decide (c∈figs))) g2:=by
  have:Qk (mOp1 pAll (Zm (JT (mVar 0)) 1 [] (gSet 0) QP (mOp2 pInS (mVar 0) (mLit (.str "0123456789"))))) [some (.str s)] g=.ok (s.cps.toList.all λc=>decide (c∈figs)) g2 :=
   QL (QI c2 (by unfold pAll;dsimp only;rw[d2];dsimp only;rw[Jy]))
  unfold Zl;rw[this];rfl
 refine⟨g2,QR rfl ?_,k2⟩
 show YH [some (.str s)] g=_
 unfold YH numB
 cases hb:(s.cps.toList.all λc=>decide (c∈figs)) with
 |false=>rw[TM];exact ZH (ift g2 (t1.trans (by rw[hb];rfl)) (QN rfl))
 |true =>
  refine Qf [some (.str s)] g2 (iff' g2 (t1.trans (by rw[hb];rfl)) rfl) (QN ?_)
  rw[Ri,J8]
  have ln:mOp1 pLen (mVar 0) [some (.str s)] g2=.ok (.int s.length) g2:=QI rfl (Uf hz)
  have ch:Yz pLe pLe (mLit (.int 1)) (mOp1 pLen (mVar 0)) (mLit (.int 60)) [some (.str s)] g2=.ok (.bl (decide (1<=s.length) && decide (s.length<=60))) g2:=by
   unfold Yz
   show(Res.ok (D.int 1) g2).bind _=_
   rw[Res.bind_ok,ln,Res.bind_ok]
   show(Res.ok (D.bl (decide ((1:Int)<=s.length))) g2).bind _=_
   rw[Res.bind_ok]
   by_cases h1:1<=s.length
   ·rw[UL (show(1:Int)<=s.length by omega),UL h1]
    show(Res.ok (D.int 60) g2).bind _=_
    rw[Res.bind_ok]
    show Res.ok (D.bl (decide ((s.length:Int)<=60))) g2=_
    rw[Ri]
    by_cases h2:s.length<=60
    ·rw[UL (show(s.length:Int)<=60 by omega),UL h2]
    ·rw[Uw (show ¬(s.length:Int)<=60 by omega),Uw h2]
   ·rw[Uw (show ¬(1:Int)<=s.length by omega),Uw h1];rfl
  unfold mAnd
  rw[ch,Res.bind_ok]
  dsimp only
  by_cases h1:1<=s.length
  ·rw[UL h1,Ri,Ri]
   by_cases h2:s.length<=60
   ·rw[UL h2,Uf rfl,Ri]
    unfold mOr
    have q1:mOp2 pEq (mVar 0) (mLit (.str "0")) [some (.str s)] g2=.ok (.bl (s.cps.toList == [48])) g2:=by
     rw[s_0]
     show Res.ok (D.bl (s == ofL [48])) g2=_
     have:(s == ofL [48])=(s.cps.toList == [48]):=by
      by_cases z:s.cps.toList=[48]
      ·rw[z,UP,<-QbK s,z,UP]
      ·rw[Uq.mpr z,Uq.mpr (λy=>z (by rw[y];rfl))]
     rw[this]
    rw[q1,Res.bind_ok]
    dsimp only
    cases hb:s.cps.toList == [48]with
    |true=>rw[Uf rfl,Bool.true_or]
    |false =>
     rw[Uh Ud,Bool.false_or]
     have q2:mOp2 pIx (mVar 0) (mLit (.int 0)) [some (.str s)] g2=.ok (.str ⟨#[s.cps.toList.headD 0]⟩) g2:=by
      refine Qg rfl rfl ?_
      unfold pIx
      dsimp only
      rw[Uf hz]
      have hl:0<s.cps.toList.length:=by rw[J8];exact h1
      cases hx:s.cps.toList with
      |nil=>rw[hx]at hl;cases hl
      |cons a r =>
       unfold atD ixD
       rw[Uf (by decide),Uf (by rw[Uz];omega)]
       rfl
     refine Qg q2 rfl ?_
     rw[s_0]
     show Res.ok (D.bl (!((⟨#[s.cps.toList.headD 0]⟩:Str) == ofL [48]))) g2=_
     have:((⟨#[s.cps.toList.headD 0]⟩:Str) == ofL [48])=(s.cps.toList.headD 0 == 48):=by
      generalize s.cps.toList.headD 0=x
      by_cases z:x=48
      ·rw[z];rfl
      ·rw[Uq.mpr z,Uq.mpr]
       intro y
       have:=TU (λs:Str=>s.cps.toList) y
       exact z (by simpa[ofL]using this)
     rw[this]
   ·rw[Uw h2,Uh Ud,TM]
  ·rw[Uw h1,TM,Uh Ud,TM]
theorem Y0{src:Src}{t:MG}{body:MS}{f i:Nat}{σ σ1 σ2:S3}{g g2:G}{d:D}(h1:src.at' g i=some (some d))(h2:t d σ=some σ1)(h3:body σ1 g=.nx σ2 g2):forL src t body (f+1) i σ g=forL src t body f (i+1) σ2 g2:=by
 rw[forL,h1];dsimp only;rw[h2];dsimp only;rw[h3]
theorem Qe5{src:Src}{t:MG}{body:MS}{f i:Nat}{σ σ1:S3}{g g2:G}{d e:D}(h1:src.at' g i=some (some d))(h2:t d σ=some σ1)(h3:body σ1 g=.rt e g2):forL src t body (f+1) i σ g=.rt e g2:=by
 rw[forL,h1];dsimp only;rw[h2];dsimp only;rw[h3]
theorem Qc1{src:Src}{t:MG}{body:MS}{f i:Nat}{σ:S3}{g:G}(h1:src.at' g i=some none):forL src t body (f+1) i σ g=.nx σ g:=by
 rw[forL,h1]
theorem ixT{a:ME}{ds:List D}{d:D}{i:Int}{σ:S3}{g:G}(h:a σ g=.ok (.tup ds) g)(hd:atD ds i=some d):mOp2 pIx a (mLit (.int i)) σ g=.ok d g:=Qg h rfl (by unfold pIx;dsimp only;rw[hd])
theorem Qc2{c:Nat}:∀{l:List Nat}{p:List Nat×List Nat},Z1 c l=some p->l=p.1++c::p.2
 |[],_,h=>by cases h
 |a::r,p,h=>by
  unfold Z1 at h
  by_cases e:a=c
  ·rw[Uf e]at h;cases h;rw[e];rfl
  ·rw[Uh e]at h
   obtain⟨q,hq,rfl⟩:=Rv.mp h
   rw[Qc2 hq];rfl
theorem Asc.of{l:List Nat}(h:∀c∈l,c<128)(hl:l.length<=100):Asc (ofL l):=⟨by rw[Qaw,Ux];exact λc hc=>UL (h c hc),by rw[QcY];exact hl⟩
theorem Asc.lt{s:Str}(h:Asc s):∀c∈s.cps.toList,c<128:=λc hc=>U5 (Ux.mp h.a c hc)
theorem Qf9{l:List Nat}(h:numB l=true):l.all (λc=>decide (48<=c/\c<=57))=true/\1<=l.length/\l.length<=60:=by
 unfold numB at h
 simp only[UC,TB]at h
 obtain⟨h1,h2,h3,_⟩:=h
 refine⟨?_,h2,h3⟩
 rw[Ux]at h1 ⊢
 intro c hc
 have:=U5 (h1 c hc)
 refine UL ?_
 simp[figs]at this
 omega
theorem Qe6{l:List Nat}{g:G}(h:numB l=true):Qds (.str (ofL l)) g=.ok (.int (dval l:Nat)) g:=by
 obtain⟨h1,h2,h3⟩:=Qf9 h
 unfold Qds;dsimp only;rw[Qaw,QcY,Uf ⟨h1,h2,h3⟩]
theorem QgH{s:Str}{c:Nat}(h:Asc s)(x2:Option D)(g:G):∃g',Keeps [] g g'/\(match entP c s.cps.toList with
  |some p=>QG [some (.str s),some (.str (ofL [c])),x2] g=.rt (.tup [.int p.1,.str (ofL [c]),.int p.2]) g'
  |none=>∃y,QG [some (.str s),some (.str (ofL [c])),x2] g=.nx [some (.str s),some (.str (ofL [c])),y] g'):=by
 have hz:s.length<=SZ:=Ye (Uo h.l (by decide))
 have key:∀(a b:Str)(m:Str),Asc a->Asc b->Zs (.str s) (.str (ofL [c])) g=.ok (.tup [.str a,.str m,.str b]) g->∃g',Keeps [] g g'/\(if (numB a.cps.toList && numB b.cps.toList)=true then QG [some (.str s),some (.str (ofL [c])),x2] g=.rt (.tup [.int (dval a.cps.toList:Nat),.str (ofL [c]),.int (dval b.cps.toList:Nat)]) g'
   else ∃y,QG [some (.str s),some (.str (ofL [c])),x2] g=.nx [some (.str s),some (.str (ofL [c])),y] g'):=by
  intro a b m ha hb hp
  obtain⟨g1,e1,k1⟩:=Jn a g ha
  obtain⟨g2,e2,k2⟩:=Jn b g1 hb
  have st:mAsg (gSet 2) (mSM Zs (mVar 0) (mVar 1)) [some (.str s),some (.str (ofL [c])),x2] g=.nx [some (.str s),some (.str (ofL [c])),some (.tup [.str a,.str m,.str b])] g:=Qw (smOk rfl rfl hp)
  have t1:Qk (Qn Q2 (Qa (mOp2 pIx (mVar 2) (mLit (.int 0))) mNil)) [some (.str s),some (.str (ofL [c])),some (.tup [.str a,.str m,.str b])] g=.ok (numB a.cps.toList) g1:=QL (by rw[Qy (ds:=[.str a]) (g':=g) (Qo (ixT rfl rfl) rfl)];exact e1)
  have t2:Qk (Qn Q2 (Qa (mOp2 pIx (mVar 2) (mLit (.int 2))) mNil)) [some (.str s),some (.str (ofL [c])),some (.tup [.str a,.str m,.str b])] g1=.ok (numB b.cps.toList) g2:=QL (by rw[Qy (ds:=[.str b]) (g':=g1) (Qo (ixT rfl rfl) rfl)];exact e2)
  cases h1:numB a.cps.toList with
  |false =>
   rw[h1]at t1
   refine⟨g1,k1,?_⟩
   rw[TM,Uh Ud]
   refine⟨some (.tup [.str a,.str m,.str b]),?_⟩
   unfold QG
   refine Qf _ g st (iff' g1 ?_ rfl)
   unfold ZC
   rw[t1,Res.bind_ok,Uh Ud]
  |true =>
   rw[h1]at t1
   refine⟨g2,k1.trans k2,?_⟩
   rw[Ri]
   have t3:ZC (Qk (Qn Q2 (Qa (mOp2 pIx (mVar 2) (mLit (.int 0))) mNil))) (Qk (Qn Q2 (Qa (mOp2 pIx (mVar 2) (mLit (.int 2))) mNil))) [some (.str s),some (.str (ofL [c])),some (.tup [.str a,.str m,.str b])] g=.ok (numB b.cps.toList) g2:=by
    unfold ZC
    rw[t1,Res.bind_ok,Uf rfl,t2]
   cases h2:numB b.cps.toList with
   |false =>
    rw[h2]at t3
    rw[Uh Ud]
    refine⟨some (.tup [.str a,.str m,.str b]),?_⟩
    unfold QG
    exact Qf _ g st (iff' g2 t3 rfl)
   |true =>
    rw[h2]at t3
    rw[Uf rfl]
    unfold QG
    refine Qf _ g st (ift g2 t3 (QN ?_))
    have i1:=Qe6 (g:=g2) h1
    have i2:=Qe6 (g:=g2) h2
    rw[QbK]at i1 i2
    unfold mOpA
    rw[Qo (x:=.int (dval a.cps.toList:Nat)) (xs:=[.str (ofL [c]),.int (dval b.cps.toList:Nat)]) (g1:=g2) (g2:=g2) (QI (ixT rfl rfl) i1) (Qo (g1:=g2) rfl (Qo (QI (ixT rfl rfl) i2) rfl)),Res.bind_ok]
    exact Uf (TV (QbI (show 3<=1000 by decide)))
 unfold entP
 cases hp:Z1 c s.cps.toList with
 |none =>
  obtain⟨g',k,e⟩:=key s Str.empty Str.empty h (by exact⟨rfl,by decide⟩) (by unfold Zs;dsimp only;rw[show oneC (ofL [c])=some c from rfl];dsimp only;rw[Uf hz];unfold QeL;rw[hp])
  rw[show numB Str.empty.cps.toList=false from by decide +kernel,Bool.and_false,Uh Ud]at e
  exact⟨g',k,e⟩
 |some p =>
  have hs:=Qc2 hp
  have hlt:=h.lt
  have hle:s.cps.toList.length<=100:=by rw[J8];exact h.l
  rw[hs]at hlt hle
  rw[UD,Uz]at hle
  obtain⟨g',k,e⟩:=key (ofL p.1) (ofL p.2) (ofL [c]) (.of (λx hx=>hlt x (UY _ hx)) (by omega)) (.of (λx hx=>hlt x (Uu _ (Uj _ hx))) (by omega)) (by unfold Zs;dsimp only;rw[show oneC (ofL [c])=some c from rfl];dsimp only;rw[Uf hz];unfold QeL;rw[hp])
  refine⟨g',k,?_⟩
  rw[Qaw,Qaw]at e
  dsimp only
  by_cases hn:(numB p.1 && numB p.2)=true
  ·rw[Uf hn]at e ⊢;exact e
  ·rw[Uh hn]at e ⊢;exact e
theorem J9{s:Str}(h:Asc s)(g:G):∃g',Zu [.str s] g=.ok (entI s.cps.toList) g'/\Keeps [] g g':=by
 have hit:∀s:Str,Qt (mOpA pTup (Qa (mLit (.str "l")) (Qa (mLit (.str "r")) mNil))) [some (.str s),none,none] g=.ok ⟨λ_ i=>some ([D.str (ofL [108]),.str (ofL [114])])[i]?,2⟩ g:=λs=>by
  unfold Qt mOpA
  rw[Qo (x:=.str "l") (xs:=[.str "r"]) (g1:=g) (g2:=g) rfl rfl,Res.bind_ok,s_l,s_r]
  rw[show pTup [.str ⟨#[108]⟩,.str ⟨#[114]⟩] g=.ok (.tup [.str ⟨#[108]⟩,.str ⟨#[114]⟩]) g from Uf (TV (QbI (show 2<=1000 by decide))),Res.bind_ok]
  rfl
 obtain⟨g1,k1,e1⟩:=QgH (c:=108) h none g
 unfold entI
 cases h1:entP 108 s.cps.toList with
 |some p =>
  rw[h1]at e1
  refine⟨g1,QR rfl ?_,k1⟩
  show Zt [some (.str s),none,none] g=_
  unfold Zt
  exact ZH ((YY (hit _)).trans (Qe5 rfl rfl e1))
 |none =>
  rw[h1]at e1
  obtain⟨y1,e1⟩:=e1
  obtain⟨g2,k2,e2⟩:=QgH (c:=114) h y1 g1
  dsimp only
  cases h2:entP 114 s.cps.toList with
  |some p =>
   rw[h2]at e2
   refine⟨g2,QR rfl ?_,k1.trans k2⟩
   show Zt [some (.str s),none,none] g=_
   unfold Zt
   exact ZH ((YY (hit _)).trans ((Y0 rfl rfl e1).trans (Qe5 rfl rfl e2)))
  |none =>
   rw[h2]at e2
   obtain⟨y2,e2⟩:=e2
   refine⟨g2,QR rfl ?_,k1.trans k2⟩
   show Zt [some (.str s),none,none] g=_
   unfold Zt
   exact Qf _ g2 ((YY (hit _)).trans ((Y0 rfl rfl e1).trans ((Y0 rfl rfl e2).trans (Qc1 rfl)))) (QN rfl)
theorem Qa3{s:Str}(h:Asc s)(g:G):∃g',QH [.str s] g=.ok (.bl (Yy s.cps.toList)) g'/\Keeps [] g g':=by
 have q1:mOp2 pEq (mVar 0) (mLit (.str "-")) [some (.str s)] g=.ok (.bl (s.cps.toList == [45])) g:=by
  rw[QgF]
  show Res.ok (D.bl (s == ofL [45])) g=_
  have:(s == ofL [45])=(s.cps.toList == [45]):=by
   by_cases z:s.cps.toList=[45]
   ·rw[z,UP,<-QbK s,z,UP]
   ·rw[Uq.mpr z,Uq.mpr (λy=>z (by rw[y];rfl))]
  rw[this]
 unfold Yy
 cases hb:s.cps.toList == [45]with
 |true =>
  refine⟨g,QR rfl (QN ?_),.refl⟩
  show mOr _ _ [some (.str s)] g=_
  unfold mOr
  rw[q1,Res.bind_ok,hb];rfl
 |false =>
  obtain⟨g',e1,k1⟩:=J9 h g
  refine⟨g',QR rfl (QN ?_),k1⟩
  show mOr _ _ [some (.str s)] g=_
  unfold mOr
  rw[q1,Res.bind_ok,hb]
  dsimp only
  rw[Uh Ud,Bool.false_or]
  refine Qg (x:=entI s.cps.toList) (y:=.non) (g1:=g') (g2:=g') (by rw[Qy (ds:=[.str s]) (g':=g) rfl];exact e1) rfl ?_
  unfold entI
  cases entP 108 s.cps.toList with
  |some p=>rfl
  |none =>
   cases entP 114 s.cps.toList with
   |some p=>rfl
   |none=>rfl
structure Pc(p:Str):Prop extends Asc p where
 sp:32∉p.cps.toList
 nl:10∉p.cps.toList
structure Lns(ls:List (List Str)):Prop where
 ne:ls≠[]
 each:∀l∈ls,l≠[]
 pc:∀l∈ls,∀p∈l,Pc p
 nl:ls.length<=6
 ml:∀l∈ls,l.length<=6
noncomputable def lnT(l:List Str):Str:=Str.join (ofL [32]) l
noncomputable def txT(ls:List (List Str)):Str:=Str.join (ofL [10]) (ls.map lnT)
theorem Qaa{l:List Str}(h:∀p∈l,Pc p)(hl:l.length<=6):sumL l<=600/\(lnT l).length<=606:=by
 have h2:sumL l<=l.length*100:=Qe3 λs hs=>(h s hs).l
 have h3:=Qa2 (sep:=ofL [32]) rfl l
 unfold lnT
 exact⟨by omega,by omega⟩
theorem Lns.tx_len{ls:List (List Str)}(h:Lns ls):sumL (ls.map lnT)<=3636/\(txT ls).length<=3642:=by
 have h0:(ls.map lnT).length<=6:=by rw[Uc];exact h.nl
 have h2:sumL (ls.map lnT)<=(ls.map lnT).length*606:=Qe3 λs hs=>by
  obtain⟨l,hl,rfl⟩:=UW.mp hs
  exact(Qaa (h.pc l hl) (h.ml l hl)).2
 have h3:=Qa2 (sep:=ofL [10]) rfl (ls.map lnT)
 unfold txT
 exact⟨by omega,by omega⟩
theorem Qe7{l:List Str}(h:∀p∈l,Pc p)(hn:l≠[]):(cutC 32 (lnT l).cps.toList).map ofL=l:=Qa1 hn λs hs=>(h s hs).sp
theorem QjS{l:List Str}(h:∀p∈l,Pc p):10∉(lnT l).cps.toList:=λz=>by
 rcases Qc0 z with z|⟨s,hs,z⟩
 ·exact absurd (Ug.mp z) (by decide)
 ·exact(h s hs).nl z
theorem Lns.cut{ls:List (List Str)}(h:Lns ls):(cutC 10 (txT ls).cps.toList).map ofL=ls.map lnT:=by
 refine Qa1 (λz=>h.ne (Re.mp z)) λs hs=>?_
 obtain⟨l,hl,rfl⟩:=UW.mp hs
 exact QjS (h.pc l hl)
theorem QbL{src:Src}{ds:List D}{e:ME}{g:G}{rows':List (List D)}(ht:src.top=ds.length)(hs:∀g1 i,Keeps [] g g1->src.at' g1 i=some ds[i]?)(hlen:rows'.length=ds.length)(he:∀(i:Nat) d r,ds[i]?=some d->rows'[i]?=some r->∀g1,Keeps [] g g1->∃n g2,e [some d] g1=.ok (.ref n) g2/\Keeps [] g1 g2/\g2[n]?=some (.lst r)):
  ∃(ls:List Nat)(g':G),ZT src (gSet 0) QP e (src.top+1) 0 [none] g []=.ok (ls.map .ref) g'/\Keeps [] g g'/\ls.length=rows'.length/\∀(i n:Nat) r,ls[i]?=some n->rows'[i]?=some r->g'[n]?=some (.lst r):=by
 obtain⟨xs,σ',g',h1,ls,h2,h3,h5,h6,_⟩:=ZQ (src:=src) (t:=gSet 0) (c:=QP) (e:=e) (n:=ds.length)
  (λi σ' g1 acc=>∃ls:List Nat,acc=ls.map D.ref/\ls.length=i/\Keeps [] g g1/\(∀(j n:Nat) r,ls[j]?=some n->rows'[j]?=some r->g1[n]?=some (.lst r))/\∃u,σ'=[u]) (λi σ' g1 acc hi hQ=>by
   obtain⟨ls,h1,h2,h4,h5,u,h6⟩:=hQ
   subst h6
   have hr:rows'[i]?=some (rows'[i]'(by omega)):=by simp[hlen,hi]
   obtain⟨n,g2,e1,e2,e3⟩:=he i ds[i] _ (by simp[hi]) hr g1 h4
   refine⟨ds[i],[some ds[i]],g1,by rw[hs g1 i h4];simp[hi],rfl,.inl ⟨.ref n,g2,rfl,e1,ls++[n],by simp[h1],by simp[h2],h4.trans e2,λj k r hk hrj=>?_,_,rfl⟩⟩
   by_cases hj:j<ls.length
   ·rw[UE hj]at hk
    exact e2.at' _ _ (by simp) (h5 j k r hk hrj)
   ·have hj':j=i:=by
     have:=(Ui.mp hk).1
     simp at this;omega
    subst hj'
    rw[UH (by omega),h2]at hk
    simp at hk
    subst hk
    rw[hr]at hrj;cases hrj
    exact e3) (λσ g1 acc ⟨ls,h1,h2,h4,_⟩=>by rw[hs g1 _ h4];simp) (src.top+1) 0 [none] g [] (by omega) (by omega) ⟨[],rfl,rfl,.refl,by simp,none,rfl⟩
 subst h2
 exact⟨ls,g',h1,h5,by omega,h6⟩
theorem QbM{s:Str}{c:Nat}{g:G}(hl:s.length<=10000)(hc:c<128):Za (.str s) (.str (ofL [c])) g=.ok (.ref g.length) (g++[.lst (((cutC c s.cps.toList).map ofL).map .str)]):=by
 unfold Za
 dsimp only
 rw[show oneC (ofL [c])=some c from rfl]
 dsimp only
 rw[Uf ⟨Ye hl,hc⟩,TC]
 rfl
noncomputable def Qja:D->D
 |.str s=>.bl (Yy s.cps.toList)
 |_=>.non
noncomputable def allT(l:List Str):Bool:=l.all λp=>Yy p.cps.toList
theorem Qga{l:List Str}(h:∀p∈l,Pc p)(hm:l.length<=6){r:Nat}{g:G}(hl:g[r]?=some (.lst (l.map .str)))(x0 x1 x2:Option D):
  ∃g',Zl (Qk (mOp1 pAll (Zm (Qt (mVar 3)) 1 [] (gSet 0) QP (Qn QH (Qa (mVar 0) mNil))))) [x0,x1,x2,some (.ref r)] g=.ok (!(allT l)) g'/\Keeps [] g g':=by
 have hq:Qs g (.ref r)=some (true,l.map .str):=by simp only[Qs,hl]
 obtain⟨src,s1,s2,s3⟩:=Jm hq
 obtain⟨g1,c1,k1⟩:=Yv (src:=src) (ds:=l.map .str) (e:=Qn QH (Qa (mVar 0) mNil)) (no:=0) (σ:=[]) (g:=g) (f:=Qja) s2 (λg1 i k=>s3 g1 i (k.seq hq)) (λd hd g1 _=>by
  obtain⟨s,hs,rfl⟩:=UW.mp hd
  obtain⟨g2,e2,k2⟩:=Qa3 (h s hs).toAsc g1
  refine⟨g2,?_,k2⟩
  show Qn QH (Qa (mVar 0) mNil) [some (.str s)] g1=_
  rw[Qy (ds:=[.str s]) (g':=g1) rfl];exact e2)
 have em:(l.map D.str).map Qja=l.map λp=>.bl (Yy p.cps.toList):=by rw[TC];rfl
 rw[em]at c1
 have hz:src.top<=SZ:=by rw[s2,Uc];exact Ye (by omega)
 have hit:Qt (mVar 3) [x0,x1,x2,some (.ref r)] g=.ok src g:=by
  unfold Qt
  show(Res.ok (D.ref r) g).bind _=_
  rw[Res.bind_ok];exact s1
 have c2:=Z9 (n:=1) (cap:=[]) (t:=gSet 0) (c:=QP) (e:=Qn QH (Qa (mVar 0) mNil)) (σ0:=[none]) hit hz rfl c1
 refine⟨g1++[.lst (l.map λp=>.bl (Yy p.cps.toList))],?_,k1.trans (.push _)⟩
 have:Qk (mOp1 pAll (Zm (Qt (mVar 3)) 1 [] (gSet 0) QP (Qn QH (Qa (mVar 0) mNil)))) [x0,x1,x2,some (.ref r)] g=.ok (allT l) (g1++[.lst (l.map λp=>.bl (Yy p.cps.toList))]) :=
  QL (QI c2 (by unfold pAll;dsimp only;rw[Qm];dsimp only;rw[Jy];rfl))
 unfold Zl;rw[this];rfl
noncomputable def entL(l:List Str):List D:=l.map λp=>entI p.cps.toList
theorem Qck{l:List Str}(h:∀p∈l,Pc p)(hm:l.length<=6){r:Nat}{g:G}(hl:g[r]?=some (.lst (l.map .str))):∃k g',ZM [.ref r] g=.ok (.ref k) g'/\Keeps [] g g'/\g'[k]?=some (.lst (entL l)):=by
 have hq:Qs g (.ref r)=some (true,l.map .str):=by simp only[Qs,hl]
 obtain⟨src,s1,s2,s3⟩:=Jm hq
 obtain⟨g1,c1,k1⟩:=Yv (src:=src) (ds:=l.map .str) (e:=Qn Zu (Qa (mVar 0) mNil)) (no:=0) (σ:=[]) (g:=g) (f:=λd=>match d with | .str s=>entI s.cps.toList|_=>.non) s2 (λg1 i k=>s3 g1 i (k.seq hq)) (λd hd g1 _=>by
  obtain⟨s,hs,rfl⟩:=UW.mp hd
  obtain⟨g2,e2,k2⟩:=J9 (h s hs).toAsc g1
  refine⟨g2,?_,k2⟩
  show Qn Zu (Qa (mVar 0) mNil) [some (.str s)] g1=_
  rw[Qy (ds:=[.str s]) (g':=g1) rfl];exact e2)
 have em:((l.map D.str).map λd=>match d with | .str s=>entI s.cps.toList|_=>.non)=entL l:=by rw[TC];rfl
 rw[em]at c1
 have hz:src.top<=SZ:=by rw[s2,Uc];exact Ye (by omega)
 have hit:Qt (mVar 0) [some (.ref r)] g=.ok src g:=by
  unfold Qt
  show(Res.ok (D.ref r) g).bind _=_
  rw[Res.bind_ok];exact s1
 have c2:=Z9 (n:=1) (cap:=[]) (t:=gSet 0) (c:=QP) (e:=Qn Zu (Qa (mVar 0) mNil)) (σ0:=[none]) hit hz rfl c1
 exact⟨_,_,QR rfl (QN c2),k1.trans (.push _),Qm _⟩
theorem Qc3{n:Nat}{ds:List D}{g:G}(h:g[n]?=some (.lst ds)):∃src,QaT (.ref n) g=.ok src g/\src.top=ds.length/\∀g1,g1[n]?=some (.lst ds)->(∀i x,ds[i]?=some x->src.at' g1 i=some (some (.tup [.int i,x])))/\src.at' g1 ds.length=some none:=by
 have hs:∀g1:G,g1[n]?=some (.lst ds)->Qs g1 (.ref n)=some (true,ds):=λg1 h=>by unfold Qs;dsimp only;rw[h]
 unfold QaT
 rw[hs g h]
 refine⟨_,rfl,rfl,λg1 h1=>⟨λi x hx=>?_,?_⟩⟩
 ·dsimp only;rw[hs g1 h1];dsimp only;rw[hx]
 ·dsimp only;rw[hs g1 h1];dsimp only;rw[Ta (Ul _)]
theorem Qab{src:Src}{t:MG}{body:MS}{n:Nat}(I:S3->G->Prop)(hstep:∀i σ g,i<n->I σ g->∃d σ1 σ2 g2,src.at' g i=some (some d)/\t d σ=some σ1/\body σ1 g=.nx σ2 g2/\I σ2 g2)(f:Nat):
  ∀(m k:Nat)(σ:S3)(g:G),k+m=n->I σ g->∃σ' g',forL src t body (f+m) k σ g=forL src t body f n σ' g'/\I σ' g'
 |0,k,σ,g,hk,h=>⟨σ,g,by rw[<-hk];rfl,h⟩
 |m+1,k,σ,g,hk,h=>by
  obtain⟨d,σ1,σ2,g2,h1,h2,h3,h4⟩:=hstep k σ g (by omega) h
  obtain⟨σ',g',e,q⟩:=Qab I hstep f m (k+1) σ2 g2 (by omega) h4
  exact⟨σ',g',(Y0 h1 h2 h3).trans e,q⟩
noncomputable def badL(m:Nat)(l:List Str):Bool:=!(l.length == m) || !(allT l)
theorem QbN{ls:List (List Str)}(h:Lns ls)(g:G):∃(L:Nat)(rs:List Nat)(g2:G),Keeps [] g g2/\g2[L]?=some (.lst (rs.map .ref))/\rs.length=ls.length/\(∀(i k:Nat) l,rs[i]?=some k->ls[i]?=some l->g2[k]?=some (.lst (l.map .str))) /\
  mAsg (gSet 1) (Zm (Qt (mSM Za (mVar 0) (mLit (.str (Str.ofString "\n"))))) 1 [] (gSet 0) QP (mSM Za (mVar 0) (mLit (.str " ")))) [some (.str (txT ls)),none,none,none] g=.nx [some (.str (txT ls)),some (.ref L),none,none] g2:=by
 obtain⟨l2,l3⟩:=h.tx_len
 have e0:mSM Za (mVar 0) (mLit (.str (Str.ofString "\n"))) [some (.str (txT ls)),none,none,none] g=.ok (.ref g.length) (g++[.lst ((ls.map lnT).map .str)]):=by
  refine smOk rfl rfl ?_
  rw[s_nl,QbM (by omega) (by decide),h.cut]
 have k0:Keeps [] g (g++[.lst ((ls.map lnT).map .str)]):=.push _
 have d0:(g++[.lst ((ls.map lnT).map D.str)])[g.length]?=some (.lst ((ls.map lnT).map .str)):=Qm _
 generalize g++[.lst ((ls.map lnT).map D.str)]=g0 at e0 k0 d0
 have hq:Qs g0 (.ref g.length)=some (true,(ls.map lnT).map .str):=by simp only[Qs,d0]
 obtain⟨src,s1,s2,s3⟩:=Jm hq
 obtain⟨rs,g1,c1,k1,n1,n2⟩:=QbL (src:=src) (ds:=(ls.map lnT).map .str) (e:=mSM Za (mVar 0) (mLit (.str " "))) (g:=g0) (rows':=ls.map λl=>l.map .str) s2 (λg1 i k=>s3 g1 i (k.seq hq)) (by simp) (λi d r hd hr g1 _=>by
  rw[UA]at hr
  rw[UA,UA]at hd
  cases hx:ls[i]? with
  |none=>rw[hx]at hr;cases hr
  |some q =>
   rw[hx]at hr hd
   cases hr
   cases hd
   have hm:q∈ls:=Tz hx
   have:=(Qaa (h.pc q hm) (h.ml q hm)).2
   refine⟨g1.length,g1++[.lst (q.map .str)],smOk (s:=lnT q) (g1:=g1) rfl rfl ?_,.push _,Qm _⟩
   rw[s_sp,QbM (by omega) (by decide),Qe7 (h.pc q hm) (h.each q hm)])
 have hz:src.top<=SZ:=by rw[s2,Uc,Uc];exact Ye (by have:=h.nl;omega)
 have hit:Qt (mSM Za (mVar 0) (mLit (.str (Str.ofString "\n")))) [some (.str (txT ls)),none,none,none] g=.ok src g0:=by
  unfold Qt;rw[e0,Res.bind_ok];exact s1
 have c2:=Z9 (n:=1) (cap:=[]) (t:=gSet 0) (c:=QP) (e:=mSM Za (mVar 0) (mLit (.str " "))) (σ0:=[none]) hit hz rfl c1
 have k2:Keeps [] g1 (g1++[.lst (rs.map .ref)]):=.push _
 exact⟨g1.length,rs,g1++[.lst (rs.map .ref)],k0.trans (k1.trans k2),Qm _,by rw[n1,Uc],λi k l hk hl=>k2.at' _ _ (by simp) (n2 i k _ hk (by rw[UA,hl];rfl)),Qw c2⟩
theorem Qac{ls:List (List Str)}(h:Lns ls){L:Nat}{rs:List Nat}{g:G}(dL:g[L]?=some (.lst (rs.map .ref)))(nl:rs.length=ls.length)(n3:∀(i k:Nat) l,rs[i]?=some k->ls[i]?=some l->g[k]?=some (.lst (l.map .str))){i:Nat}(hi:i<ls.length)(x0:Option D):∃g',Keeps [] g g'/\Qu [x0,some (.ref L),some (.int i),some (.ref (rs[i]'(by omega)))] g=if badL (ls.headD []).length ls[i]=true then .raise (10,some i) [x0,some (.ref L),some (.int i),some (.ref (rs[i]'(by omega)))] g' else .nx [x0,some (.ref L),some (.int i),some (.ref (rs[i]'(by omega)))] g':=by
 have hm:ls[i]∈ls:=Ut hi
 have h0:0<ls.length:=by omega
 have e0:ls.headD []=ls[0]:=by cases ls with|nil=>simp at h0|cons a r=>rfl
 have d0:=n3 0 (rs[0]'(by omega)) ls[0] (Ue (by omega)) (Ue (by omega))
 have di:=n3 i (rs[i]'(by omega)) ls[i] (Ue (by omega)) (Ue hi)
 obtain⟨g5,e5,k5⟩:=Qga (h.pc _ hm) (h.ml _ hm) di x0 (some (.ref L)) (some (.int i))
 generalize hri:rs[i]'(by omega)=ri at *
 have q1:mOp1 pLen (mVar 3) [x0,some (.ref L),some (.int i),some (.ref ri)] g=.ok (.int ls[i].length) g:=QI rfl (by
  unfold pLen;dsimp only;rw[di];dsimp only;rw[Uc])
 have q2:mOp1 pLen (mOp2 pIx (mVar 1) (mLit (.int 0))) [x0,some (.ref L),some (.int i),some (.ref ri)] g=.ok (.int (ls.headD []).length) g:=by
  rw[e0]
  refine QI (x:=.ref (rs[0]'(by omega))) (g1:=g) (Qg (x:=.ref L) (y:=.int 0) (g1:=g) (g2:=g) rfl rfl ?_) ?_
  ·unfold pIx;dsimp only;rw[dL];dsimp only
   have:atD (rs.map D.ref) 0=some (.ref (rs[0]'(by omega))):=by
    unfold atD ixD
    rw[Uf (by decide),Uf (by rw[Uc];omega)]
    show(rs.map D.ref)[0]?=_
    rw[UA,Ue (by omega)];rfl
   rw[this]
  ·unfold pLen;dsimp only;rw[d0];dsimp only;rw[Uc]
 have q3:Qk (mOp2 pNe (mOp1 pLen (mVar 3)) (mOp1 pLen (mOp2 pIx (mVar 1) (mLit (.int 0))))) [x0,some (.ref L),some (.int i),some (.ref ri)] g=.ok (!(ls[i].length == (ls.headD []).length)) g:=QL (Qg q1 q2 (by
  rw[ne_int]
  congr 3
  by_cases z:ls[i].length=(ls.headD []).length
  ·rw[z,UP,UP]
  ·rw[Uq.mpr z,Uq.mpr (by omega)]))
 have fin:∀(b:Bool)(g':G),mOrT (Qk (mOp2 pNe (mOp1 pLen (mVar 3)) (mOp1 pLen (mOp2 pIx (mVar 1) (mLit (.int 0)))))) (Zl (Qk (mOp1 pAll (Zm (Qt (mVar 3)) 1 [] (gSet 0) QP (Qn QH (Qa (mVar 0) mNil)))))) [x0,some (.ref L),some (.int i),some (.ref ri)] g=.ok b g' ->
   Qu [x0,some (.ref L),some (.int i),some (.ref ri)] g=if b=true then .raise (10,some i) [x0,some (.ref L),some (.int i),some (.ref ri)] g' else .nx [x0,some (.ref L),some (.int i),some (.ref ri)] g':=λb g' e=>by
  unfold Qu
  cases b with
  |true =>
   rw[Uf rfl]
   refine ift g' e ?_
   show(if (0:Int)<=(i:Int) then Out.raise (10,some (i:Int).toNat) _ g' else .stuck)=_
   rw[Uf (by omega),UX]
  |false=>rw[Uh Ud];exact iff' g' e rfl
 unfold badL
 cases hb:ls[i].length == (ls.headD []).length with
 |false =>
  rw[hb]at q3
  refine⟨g,.refl,?_⟩
  exact fin true g (by unfold mOrT;rw[q3,Res.bind_ok,Uf (by decide)])
 |true =>
  rw[hb]at q3
  refine⟨g5,k5,?_⟩
  exact fin _ g5 (by unfold mOrT;rw[q3,Res.bind_ok,Uh (by decide),e5];rfl)
theorem Qgb{ls:List (List Str)}(h:Lns ls){i:Nat}(hi:i<ls.length)(hg:∀j (hj:j<i),badL (ls.headD []).length (ls[j]'(by omega))=false)(hb:badL (ls.headD []).length ls[i]=true)(g:G):
  ∃g',Qq [.str (txT ls)] g=.raise (10,some i) g'/\Keeps [] g g':=by
 obtain⟨L,rs,g2,k2,dL,nl,n3,e2⟩:=QbN h g
 obtain⟨se,t1,t2,t3⟩:=Qc3 dL
 have hit3:Ym (mVar 1) [some (.str (txT ls)),some (.ref L),none,none] g2=.ok se g2:=by
  unfold Ym
  show(Res.ok (D.ref L) g2).bind _=_
  rw[Res.bind_ok];exact t1
 have ht:se.top=ls.length:=by rw[t2,Uc,nl]
 obtain⟨σ',g3,e3,⟨y2,y3,r1⟩,k3⟩:=Qab (src:=se) (t:=QaF [gSet 2,gSet 3]) (body:=Qu) (n:=i) (λσ g4=>(∃y2 y3,σ=[some (.str (txT ls)),some (.ref L),y2,y3])/\Keeps [] g2 g4) (λj σ g4 hj ⟨⟨y2,y3,r1⟩,k4⟩=>by
  subst r1
  obtain⟨g5,k5,e5⟩:=Qac h (k4.at' _ _ (by simp) dL) nl (λi k l a b=>k4.at' _ _ (by simp) (n3 i k l a b)) (i:=j) (by omega) (some (.str (txT ls)))
  rw[hg j hj,Uh Ud]at e5
  exact⟨.tup [.int j,.ref (rs[j]'(by omega))],_,_,g5,(t3 g4 (k4.at' _ _ (by simp) dL)).1 j _ (by rw[UA,Ue (by omega)];rfl),rfl,e5,⟨_,_,rfl⟩,k4.trans k5⟩) (ls.length-i+1) i 0 [some (.str (txT ls)),some (.ref L),none,none] g2 (by omega) ⟨⟨none,none,rfl⟩,.refl⟩
 subst r1
 obtain⟨g5,k5,e5⟩:=Qac h (k3.at' _ _ (by simp) dL) nl (λi k l a b=>k3.at' _ _ (by simp) (n3 i k l a b)) hi (some (.str (txT ls)))
 rw[hb,Uf rfl]at e5
 refine⟨g5,?_,k2.trans (k3.trans k5)⟩
 refine QbJ (σ:=[some (.str (txT ls)),some (.ref L),some (.int i),some (.ref (rs[i]'(by omega)))]) rfl ?_
 show QK [some (.str (txT ls)),none,none,none] g=_
 unfold QK
 refine Qf _ g2 e2 (QeV ?_)
 refine(YY hit3).trans ?_
 rw[ht,show ls.length+1=ls.length-i+1+i by omega,e3,forL,(t3 g3 (k3.at' _ _ (by simp) dL)).1 i (.ref (rs[i]'(by omega))) (by rw[UA,Ue (by omega)];rfl)]
 dsimp only
 show(match Qu [some (.str (txT ls)),some (.ref L),some (.int i),some (.ref (rs[i]'(by omega)))] g3 with | .nx σ2 g2=>_ | .ct σ2 g2=>_ | .bk σ2 g2=>_|o=>o)=_
 rw[e5]
theorem Qe8{ls:List (List Str)}(h:Lns ls)(hg:∀j (hj:j<ls.length),badL (ls.headD []).length ls[j]=false)(hth:∀l∈ls,∀d∈entL l,thingD [] d)(g:G):
  ∃M g',Keeps [] g g'/\Qq [.str (txT ls)] g=(if ZB (ls.map entL)=true then .ok (.ref M) g' else .raise (1,none) g')/\(ZB (ls.map entL)=true->g'[M]?=some (QaZ (ls.map entL))):=by
 obtain⟨L,rs,g2,k2,dL,nl,n3,e2⟩:=QbN h g
 obtain⟨se,t1,t2,t3⟩:=Qc3 dL
 have hit3:Ym (mVar 1) [some (.str (txT ls)),some (.ref L),none,none] g2=.ok se g2:=by
  unfold Ym
  show(Res.ok (D.ref L) g2).bind _=_
  rw[Res.bind_ok];exact t1
 have ht:se.top=ls.length:=by rw[t2,Uc,nl]
 obtain⟨σ',g3,e3,⟨y2,y3,r1⟩,k3⟩:=Qab (src:=se) (t:=QaF [gSet 2,gSet 3]) (body:=Qu) (n:=ls.length) (λσ g4=>(∃y2 y3,σ=[some (.str (txT ls)),some (.ref L),y2,y3])/\Keeps [] g2 g4) (λj σ g4 hj ⟨⟨y2,y3,r1⟩,k4⟩=>by
  subst r1
  obtain⟨g5,k5,e5⟩:=Qac h (k4.at' _ _ (by simp) dL) nl (λi k l a b=>k4.at' _ _ (by simp) (n3 i k l a b)) (i:=j) (by omega) (some (.str (txT ls)))
  rw[hg j hj,Uh Ud]at e5
  exact⟨.tup [.int j,.ref (rs[j]'(by omega))],_,_,g5,(t3 g4 (k4.at' _ _ (by simp) dL)).1 j _ (by rw[UA,Ue (by omega)];rfl),rfl,e5,⟨_,_,rfl⟩,k4.trans k5⟩) 1 ls.length 0 [some (.str (txT ls)),some (.ref L),none,none] g2 (by omega) ⟨⟨none,none,rfl⟩,.refl⟩
 subst r1
 have hf:mFor (Ym (mVar 1)) (QaF [gSet 2,gSet 3]) Qu [some (.str (txT ls)),some (.ref L),none,none] g2=.nx [some (.str (txT ls)),some (.ref L),y2,y3] g3:=by
  refine(YY hit3).trans ?_
  rw[ht,Nat.add_comm,e3]
  refine Qc1 ?_
  have:=(t3 g3 (k3.at' _ _ (by simp) dL)).2
  rw[Uc,nl]at this;exact this
 have d3:=k3.at' _ _ (by simp) dL
 have hq3:Qs g3 (.ref L)=some (true,rs.map .ref):=by simp only[Qs,d3]
 obtain⟨sr,u1,u2,u3⟩:=Jm hq3
 obtain⟨ms,g4,c4,k4,m1,m2⟩:=QbL (src:=sr) (ds:=rs.map .ref) (e:=Qn ZM (Qa (mVar 0) mNil)) (g:=g3) (rows':=ls.map entL) u2 (λg1 i k=>u3 g1 i (k.seq hq3)) (by rw[Uc,Uc,nl]) (λi d r hd hr g5 k5=>by
  rw[UA]at hd hr
  cases hx:rs[i]? with
  |none=>rw[hx]at hd;cases hd
  |some k =>
   cases hy:ls[i]? with
   |none=>rw[hy]at hr;cases hr
   |some l =>
    rw[hx]at hd
    rw[hy]at hr
    cases hd;cases hr
    have hm:l∈ls:=Tz hy
    obtain⟨q,g6,e6,k6,d6⟩:=Qck (h.pc l hm) (h.ml l hm) (k5.at' _ _ (by simp) (k3.at' _ _ (by simp) (n3 i k l hx hy)))
    refine⟨q,g6,?_,k6,d6⟩
    rw[Qy (ds:=[.ref k]) (g':=g5) rfl];exact e6)
 have hit4:Qt (mVar 1) [some (.str (txT ls)),some (.ref L),y2,y3] g3=.ok sr g3:=by
  unfold Qt
  show(Res.ok (D.ref L) g3).bind _=_
  rw[Res.bind_ok];exact u1
 have hz4:sr.top<=SZ:=by rw[u2,Uc,nl];exact Ye (by have:=h.nl;omega)
 have c5:=Z9 (n:=1) (cap:=[]) (t:=gSet 0) (c:=QP) (e:=Qn ZM (Qa (mVar 0) mNil)) (σ0:=[none]) hit4 hz4 rfl c4
 have k5:Keeps [] g4 (g4++[.lst (ms.map .ref)]):=.push _
 have d5:(g4++[.lst (ms.map D.ref)])[g4.length]?=some (.lst (ms.map .ref)):=Qm _
 have m3:∀(i k:Nat) r,ms[i]?=some k->(ls.map entL)[i]?=some r->(g4++[.lst (ms.map D.ref)])[k]?=some (.lst r):=λi k r hk hr=>k5.at' _ _ (by simp) (m2 i k r hk hr)
 generalize g4.length=P at c5 d5
 generalize g4++[.lst (ms.map D.ref)]=g5 at c5 k5 d5 m3
 have hro:rowsOf g5 (.ref P) (ls.map entL):=by
  refine⟨true,ms.map .ref,by simp only[Qs,d5],by rw[Uc,m1],λi x r hx hr=>?_⟩
  rw[UA]at hx
  cases hk:ms[i]? with
  |none=>rw[hk]at hx;cases hx
  |some k=>rw[hk]at hx;cases hx;exact⟨true,by simp only[Qs,m3 i k r hk hr]⟩
 obtain⟨g6,k6,e6,h6⟩:=QhE (.ref P) (ls.map entL) g5 hro (λr hr=>by
   obtain⟨l,hl,rfl⟩:=UW.mp hr
   unfold entL;rw[Uc];exact Ye (by have:=h.ml l hl;omega)) (by rw[Uc];exact Ye (by have:=h.nl;omega)) (λr hr d hd=>by
   obtain⟨l,hl,rfl⟩:=UW.mp hr
   exact hth l hl d hd) (Qa (Zm (Qt (mVar 1)) 1 [] (gSet 0) QP (Qn ZM (Qa (mVar 0) mNil))) mNil) [some (.str (txT ls)),some (.ref L),y2,y3] g3 (Qo c5 rfl)
 refine⟨g5.length,g6,k2.trans (k3.trans (k4.trans (k5.trans k6))),?_,h6⟩
 by_cases hgd:ZB (ls.map entL)=true
 ·rw[Uf hgd]at e6 ⊢
  refine QR rfl ?_
  show QK [some (.str (txT ls)),none,none,none] g=_
  unfold QK
  exact Qf _ g2 e2 (Qf _ g3 hf (QN e6))
 ·rw[Uh hgd]at e6 ⊢
  refine QbJ (σ:=[some (.str (txT ls)),some (.ref L),y2,y3]) rfl ?_
  show QK [some (.str (txT ls)),none,none,none] g=_
  unfold QK
  refine Qf _ g2 e2 (Qf _ g3 hf ?_)
  unfold mRet;rw[e6]
noncomputable def NS:List Nat:=[0,1,2,3,4,5,10^9,10^9+1,10^9+2,10^9+3,10^40,10^40+1,10^40+2,10^40+3]
noncomputable def okN(n:Nat):Bool:=((sI n).cps.toList.all λc=>decide (48<=c/\c<=57)) && numB (sI n).cps.toList && decide (dval (sI n).cps.toList=n) && decide ((sI n).length<=41) && decide (n<10^100)
theorem QhH:NS.all okN=true:=by decide +kernel
structure NumS(n:Nat):Prop where
 ch:∀c∈(sI n).cps.toList,48<=c/\c<=57
 nb:numB (sI n).cps.toList=true
 v:dval (sI n).cps.toList=n
 len:(sI n).length<=41
 lt:n<10^100
theorem numS{n:Nat}(h:n∈NS):NumS n:=by
 have q:=Ux.mp QhH n h
 unfold okN at q
 simp only[UC,TB,Ux]at q
 obtain⟨⟨⟨⟨h1,h2⟩,h3⟩,h4⟩,h5⟩:=q
 exact⟨h1,h2,h3,h4,h5⟩
def entW(d:D):Prop:=d=.non\/∃i j w:Nat,d=.tup [.int i,.str (ofL [w]),.int j]/\i∈NS/\j∈NS/\(w=108\/w=114)
noncomputable def entT:D->Str
 |.tup [.int i,.str w,.int j]=>sI i++w++sI j
 |_=>ofL [45]
theorem Qad{c:Nat}(q:List Nat):∀{p:List Nat},c∉p->Z1 c (p++c::q)=some (p,q)
 |[],_=>by rw[RQ,Z1,Uf rfl]
 |a::r,h=>by
  rw[RG,Z1,Uh (λz=>h (by rw[z];exact Up ..)),Qad q (λz=>h (Uj _ z))];rfl
theorem QbO{c:Nat}:∀{p:List Nat},c∉p->Z1 c p=none
 |[],_=>rfl
 |a::r,h=>by
  rw[Z1,Uh (λz=>h (by rw[z];exact Up ..)),QbO (λz=>h (Uj _ z))];rfl
theorem entW.is{d:D}(h:entW d):Pc (entT d)/\Yy (entT d).cps.toList=true/\entI (entT d).cps.toList=d/\thingD [] d:=by
 rcases h with rfl|⟨i,j,w,rfl,hi,hj,hw⟩
 ·refine⟨⟨⟨by decide +kernel,by decide +kernel⟩,by decide +kernel,by decide +kernel⟩,by decide +kernel,?_,.inl rfl⟩
  have h1:entP 108 [45]=none:=by decide +kernel
  have h2:entP 114 [45]=none:=by decide +kernel
  show entI [45]=_
  unfold entI;rw[h1];dsimp only;rw[h2]
 ·have Ni:=numS hi
  have Nj:=numS hj
  have e:(entT (.tup [.int i,.str (ofL [w]),.int j])).cps.toList=(sI i).cps.toList++w::(sI j).cps.toList:=by
   show(sI i++ofL [w]++sI j).cps.toList=_
   rw[Jg,Jg,Qaw,TZ,WF]
  have el:(entT (.tup [.int i,.str (ofL [w]),.int j])).length=(sI i).length+1+(sI j).length:=by
   show(sI i++ofL [w]++sI j).length=_
   rw[J7,J7];rfl
  have ni:∀c,(c<48\/57<c)->c∉(sI i).cps.toList:=λc hc z=>by have:=Ni.ch c z;omega
  have nj:∀c,(c<48\/57<c)->c∉(sI j).cps.toList:=λc hc z=>by have:=Nj.ch c z;omega
  have mem:∀c,c∈(entT (.tup [.int i,.str (ofL [w]),.int j])).cps.toList->(48<=c/\c<=57)\/c=w:=λc hc=>by
   rw[e,UB,UG]at hc
   rcases hc with hc|hc|hc
   ·exact .inl (Ni.ch c hc)
   ·exact .inr hc
   ·exact .inl (Nj.ch c hc)
  have nbb:(numB (sI i).cps.toList && numB (sI j).cps.toList)=true:=by rw[Ni.nb,Nj.nb];rfl
  refine⟨⟨⟨?_,?_⟩,?_,?_⟩,?_,?_,.inr ⟨i,j,ofL [w],rfl⟩⟩
  ·rw[Ux];intro c hc;refine UL ?_;rcases mem c hc with z|z <;> omega
  ·rw[el];have:=Ni.len;have:=Nj.len;omega
  ·intro z;rcases mem 32 z with y|y <;> omega
  ·intro z;rcases mem 10 z with y|y <;> omega
  ·unfold Yy entP
   rw[e]
   rcases hw with rfl|rfl
   ·rw[Qad _ (ni 108 (by omega))];dsimp only;rw[Uf nbb];simp
   ·rw[Qad (c:=114) _ (ni 114 (by omega))];dsimp only;rw[Uf nbb];simp
  ·unfold entI entP
   rw[e]
   rcases hw with rfl|rfl
   ·rw[Qad _ (ni 108 (by omega))];dsimp only;rw[Uf nbb];dsimp only;rw[Ni.v,Nj.v]
   ·rw[QbO (c:=108) (p:=(sI i).cps.toList++114::(sI j).cps.toList) (λz=>by
     rw[UB,UG]at z
     rcases z with z|z|z
     ·exact ni 108 (by omega) z
     ·omega
     ·exact nj 108 (by omega) z)]
    dsimp only
    rw[Qad (c:=114) _ (ni 114 (by omega))];dsimp only;rw[Uf nbb];dsimp only;rw[Ni.v,Nj.v]
structure TabW(rows:List (List D))(n m:Nat):Prop where
 n0:0<n
 m0:0<m
 n4:n<=4
 m4:m<=4
 len:rows.length=n
 each:∀r∈rows,r.length=m
 ok:∀r∈rows,∀d∈r,entW d
noncomputable def pcs(rows:List (List D)):List (List Str):=rows.map λr=>r.map entT
noncomputable def tabT(rows:List (List D)):Str:=txT (pcs rows)
section
variable{rows:List (List D)}{n m:Nat}
theorem TabW.pc(h:TabW rows n m){r:List D}(hr:r∈rows):∀p∈r.map entT,Pc p:=λp hp=>by
 obtain⟨d,hd,rfl⟩:=UW.mp hp
 exact(h.ok r hr d hd).is.1
theorem TabW.lns(h:TabW rows n m):Lns (pcs rows):=by
 have h0:=h.n0
 have h1:=h.m0
 refine⟨λz=>?_,λl hl=>?_,λl hl=>?_,?_,λl hl=>?_⟩
 ·have e:=h.len
  rw[Re.mp z]at e
  simp at e;omega
 ·obtain⟨r,hr,rfl⟩:=UW.mp hl
  intro z
  have e:=h.each r hr
  rw[Re.mp z]at e
  simp at e;omega
 ·obtain⟨r,hr,rfl⟩:=UW.mp hl
  exact h.pc hr
 ·unfold pcs;rw[Uc,h.len];have:=h.n4;omega
 ·obtain⟨r,hr,rfl⟩:=UW.mp hl
  rw[Uc,h.each r hr];have:=h.m4;omega
theorem TabW.told(h:TabW rows n m){r:List D}(hr:r∈rows):allT (r.map entT)=true:=by
 unfold allT
 rw[Ux]
 intro p hp
 obtain⟨d,hd,rfl⟩:=UW.mp hp
 exact(h.ok r hr d hd).is.2.1
theorem TabW.ent(h:TabW rows n m){r:List D}(hr:r∈rows):entL (r.map entT)=r:=by
 unfold entL
 rw[TC]
 conv=>rhs;rw[<-List.map_id r]
 refine List.map_congr_left λd hd=>?_
 exact(h.ok r hr d hd).is.2.2.1
theorem TabW.ents(h:TabW rows n m):(pcs rows).map entL=rows:=by
 unfold pcs
 rw[TC]
 conv=>rhs;rw[<-List.map_id rows]
 exact List.map_congr_left λr hr=>h.ent hr
end
theorem addS{s t:Str}{g:G}(h:s.length+t.length<=10000):pAdd (.str s) (.str t) g=.ok (.str (s++t)) g:=Uf (Ye h)
theorem strP{i:Nat}{g:G}(h:i<10^100):pStr (.int (i:Int)) g=.ok (.str (sI (i:Int))) g:=by
 have h1:(0:Int)<=(i:Int)/\(i:Int)<10^100:=⟨by omega,by exact_mod_cast h⟩
 unfold pStr;dsimp only;rw[Uf h1];rfl
theorem QhI{d:D}(h:entW d)(σ:S3)(g:G):(mIfE (Qk (mOp2 pIs (mVar 0) (mLit .non))) (mLit (.str "-")) (mOp2 pAdd (mOp2 pAdd (mOp1 pStr (mOp2 pIx (mVar 0) (mLit (.int 0)))) (mOp2 pIx (mVar 0) (mLit (.int 1)))) (mOp1 pStr (mOp2 pIx (mVar 0) (mLit (.int 2)))))) (some d::σ) g=.ok (.str (entT d)) g:=by
 unfold mIfE
 rcases h with rfl|⟨i,j,w,rfl,hi,hj,hw⟩
 ·show(Res.ok true g).bind _=_
  rw[Res.bind_ok,Uf rfl,QgF];rfl
 ·show(Res.ok false g).bind _=_
  rw[Res.bind_ok,Uh Ud]
  have l0:(ofL [w]).length=1:=rfl
  have:=(numS hi).len
  have:=(numS hj).len
  exact Qg (x:=.str (sI i++ofL [w])) (y:=.str (sI j)) (g1:=g) (g2:=g) (Qg (x:=.str (sI i)) (y:=.str (ofL [w])) (g1:=g) (g2:=g) (QI (x:=.int i) (g1:=g) (ixT rfl rfl) (strP (numS hi).lt)) (ixT rfl rfl) (addS (by omega))) (QI (x:=.int j) (g1:=g) (ixT rfl rfl) (strP (numS hj).lt)) (addS (by rw[J7];omega))
noncomputable def Qjb(d:D):D:=.str (entT d)
theorem Qe9(r:List D):r.map Qjb=(r.map entT).map .str:=by rw[TC];rfl
theorem QbP{rows:List (List D)}{n m:Nat}(h:TabW rows n m){N t:Nat}{g:G}(hT:tabOf N g t rows):∃g',Jx [.ref t] g=.ok (.str (tabT rows)) g'/\Keeps [] g g':=by
 have hL:=h.lns
 obtain⟨l2,l3⟩:=hL.tx_len
 have hlr:rows.length<=4:=by rw[h.len];exact h.n4
 obtain⟨_,ds,h1,h2,h3⟩:=hT
 have htl:t<g.length:=Q0 h1
 have k0:Keeps [] g (g++[.lst []]):=.push _
 have d0:(g++[.lst []])[g.length]?=some (.lst []):=Qm _
 have e0:mAsg (gSet 1) (mOpA newL mNil) [some (.ref t),none,none,none] g=.nx [some (.ref t),some (.ref g.length),none,none] (g++[.lst []]):=Qw (d:=.ref g.length) rfl
 have hl0:g.length<=(g++[GO.lst []]).length:=k0.len
 generalize hc:g.length=c at d0 e0 htl hl0
 generalize g++[.lst []]=g0 at k0 d0 e0 hl0
 have h10:=k0.at' _ _ (by simp) h1
 have hit:Qt (mVar 0) [some (.ref t),some (.ref c),none,none] g0=.ok (⟨λg i=>(match g[t]? with|some (.lst es)=>some es[i]? | _=>none),ds.length⟩:Src) g0:=by
  unfold Qt
  show(Res.ok (D.ref t) g0).bind _=_
  rw[Res.bind_ok]
  unfold JG;dsimp only;rw[h10]
  try rfl
 obtain⟨σ',g',e,y2,y3,r1,r2,r3⟩:=QhA (src:=(⟨λg i=>(match g[t]? with|some (.lst es)=>some es[i]? | _=>none),ds.length⟩:Src)) (t:=gSet 2) (body:=YI) (n:=rows.length) (σ:=[some (.ref t),some (.ref c),none,none]) (g:=g0) h2
  (λi σ g1=>∃y2 y3,σ=[some (.ref t),some (.ref c),y2,y3]/\Keeps [c] g0 g1/\g1[c]?=some (.lst (((rows.take i).map λr=>lnT (r.map entT)).map .str))) ⟨none,none,rfl,.refl,d0⟩ (λi σ g1 hi hQ=>by
   obtain⟨y2,y3,r1,r2,r3⟩:=hQ
   subst r1
   have hid:i<ds.length:=by omega
   obtain⟨l,hl,_,_,hg⟩:=h3 i ds[i] rows[i] (Ue hid) (Ue hi)
   have hr:rows[i]∈rows:=Ut hi
   have hll:l<g.length:=Q0 hg
   have gl1:g1[l]?=some (.lst rows[i]):=r2.at' _ _ (λz=>by have:=Ug.mp z;omega) (k0.at' _ _ (by simp) hg)
   have gt1:g1[t]?=some (.lst ds):=r2.at' _ _ (λz=>by have:=Ug.mp z;omega) h10
   have hq:Qs g1 (.ref l)=some (true,rows[i]):=by simp[Qs,gl1]
   obtain⟨src,s1,s2,s3⟩:=Jm hq
   have m1:rows[i].length<=4:=by rw[h.each _ hr];exact h.m4
   obtain⟨m2,m3⟩:=Qaa (h.pc hr) (by rw[Uc];omega)
   obtain⟨g2,c1,k1⟩:=Yv (src:=src) (ds:=rows[i]) (e:=mIfE (Qk (mOp2 pIs (mVar 0) (mLit .non))) (mLit (.str "-")) (mOp2 pAdd (mOp2 pAdd (mOp1 pStr (mOp2 pIx (mVar 0) (mLit (.int 0)))) (mOp2 pIx (mVar 0) (mLit (.int 1)))) (mOp1 pStr (mOp2 pIx (mVar 0) (mLit (.int 2)))))) (no:=0) (σ:=[]) (g:=g1) (f:=Qjb) s2 (λg2 i k=>s3 g2 i (k.seq hq)) (λd hd g2 _=>⟨g2,QhI (h.ok _ hr d hd) [] g2,.refl⟩)
   rw[Qe9]at c1
   have hz:src.top<=SZ:=by rw[s2];exact Ye (by omega)
   have hit2:Qt (mVar 2) [some (.ref t),some (.ref c),some (.ref l),y3] g1=.ok src g1:=by
    unfold Qt
    show(Res.ok (D.ref l) g1).bind _=_
    rw[Res.bind_ok];exact s1
   have c2:=Z9 (n:=1) (cap:=[]) (t:=gSet 0) (c:=QP) (e:=mIfE (Qk (mOp2 pIs (mVar 0) (mLit .non))) (mLit (.str "-")) (mOp2 pAdd (mOp2 pAdd (mOp1 pStr (mOp2 pIx (mVar 0) (mLit (.int 0)))) (mOp2 pIx (mVar 0) (mLit (.int 1)))) (mOp1 pStr (mOp2 pIx (mVar 0) (mLit (.int 2)))))) (σ0:=[none]) hit2 hz rfl c1
   have k2:Keeps [] g1 (g2++[.lst ((rows[i].map entT).map .str)]):=k1.trans (.push _)
   have d2:(g2++[.lst ((rows[i].map entT).map D.str)])[g2.length]?=some (.lst ((rows[i].map entT).map .str)):=Qm _
   generalize g2++[.lst ((rows[i].map entT).map D.str)]=g3 at c2 k2 d2
   have gc3:=k2.at' _ _ (by simp) r3
   refine⟨.ref l,[some (.ref t),some (.ref c),some (.ref l),y3],[some (.ref t),some (.ref c),some (.ref l),some (.ref g2.length)],g3.set c (.lst (((rows.take i).map λr=>lnT (r.map entT)).map .str++[.str (lnT (rows[i].map entT))])),by dsimp only;rw[gt1];dsimp only;rw[Ue hid,hl],rfl,?_,_,_,rfl,r2.trans (k2.all.trans (.set _ _)),?_⟩
   ·unfold YI
    refine Qf [some (.ref t),some (.ref c),some (.ref l),some (.ref g2.length)] g3 (Qw c2) ?_
    refine QeZ rfl gc3 (smOk (s:=Str.ofString " ") (y:=.ref g2.length) (g1:=g3) (g2:=g3) rfl rfl ?_) (QbI (by simp;omega))
    rw[s_sp]
    exact Qe4 rfl d2 (by rw[Uc];omega)
   ·rw[Q8 gc3,Tx hi,UU,UU];rfl) (λσ g1 hQ=>by
   obtain⟨_,_,_,r2,_⟩:=hQ
   have gt1:g1[t]?=some (.lst ds):=r2.at' _ _ (λz=>by have:=Ug.mp z;omega) h10
   show(match g1[t]? with|some (.lst es)=>some es[rows.length]? | _=>none)=_
   rw[gt1];dsimp only;rw[Ta (by omega)])
 subst r1
 rw[T9]at r3
 refine⟨g',QR rfl ?_,⟨Uo k0.len r2.len,λx o _ hx=>r2.at' x o (λz=>by have:=Ug.mp z;have:=Q0 hx;omega) (k0.at' x o (by simp) hx)⟩⟩
 show QaV [some (.ref t),none,none,none] g=_
 unfold QaV
 refine Qf _ g0 e0 ?_
 refine Qf _ g' ((YY hit).trans e) (QN (smOk (s:=Str.ofString "\n") (y:=.ref c) (g1:=g') (g2:=g') rfl rfl ?_))
 have e5:(rows.map λr=>lnT (r.map entT))=(pcs rows).map lnT:=by unfold pcs;rw[TC];rfl
 rw[e5]at r3
 rw[s_nl]
 exact Qe4 rfl r3 (by rw[Uc];have:=hL.nl;omega)
def Sm(f:Nat)(d:D):Prop:=∀g,∃g',QW f [d,d] g=.ok (.bl true) g'/\Keeps [] g g'
theorem Qjc(f:Nat):Sm (f+1) .non:=λg=>⟨g,QR rfl (ZH (ift g rfl (QN rfl))),.refl⟩
theorem Qfa(f:Nat)(i:Int):Sm (f+1) (.int i):=λg=>by
 refine⟨g,QR rfl ?_,.refl⟩
 show Z7 (QW f) [some (.int i),some (.int i)] g=_
 unfold Z7
 refine Qf [some (.int i),some (.int i)] g rfl (Qf [some (.int i),some (.int i)] g rfl (Qf [some (.int i),some (.int i)] g rfl (Qf [some (.int i),some (.int i)] g rfl (QN ?_))))
 show Res.ok (D.bl (i == i)) g=_
 rw[UP]
theorem QgI(f:Nat)(w:Str):Sm (f+1) (.str w):=λg=>by
 refine⟨g,QR rfl ?_,.refl⟩
 show Z7 (QW f) [some (.str w),some (.str w)] g=_
 unfold Z7
 refine Qf [some (.str w),some (.str w)] g rfl (Qf [some (.str w),some (.str w)] g rfl (Qf [some (.str w),some (.str w)] g rfl (ZH (ift g rfl (QN ?_)))))
 show Res.ok (D.bl (w == w)) g=_
 rw[UP]
theorem Qc4(f:Nat)(ds:List D)(hz:ds.length<=1000)(h:∀d∈ds,Sm f d):Sm (f+1) (.tup ds):=λg=>by
 obtain⟨src,s1,s2,s3⟩:=QhF (g:=g) (d1:=.tup ds) (d2:=.tup ds) (xs:=ds) (ys:=ds) rfl rfl rfl
 obtain⟨xs,σ',g',c1,c2,k1,_⟩:=ZQ (src:=src) (t:=QaF [gSet 0,gSet 1]) (c:=QP) (e:=Qn (QW f) (Qa (mVar 0) (Qa (mVar 1) mNil))) (n:=ds.length)
  (λi σ' g1 acc=>acc=List.replicate i (.bl true)/\Keeps [] g g1/\∃u v,σ'=[u,v]) (λi σ' g1 acc hi hQ=>by
   obtain⟨h1,h2,u,v,h3⟩:=hQ
   subst h3
   obtain⟨g2,e2,k2⟩:=h ds[i] (Ut hi) g1
   refine⟨.tup [ds[i],ds[i]],[some ds[i],some ds[i]],g1,(s3 g1 rfl rfl).2 i _ _ (Ue hi) (Ue hi),rfl,.inl ⟨.bl true,g2,rfl,?_,?_,h2.trans k2,_,_,rfl⟩⟩
   ·rw[Qy (ds:=[ds[i],ds[i]]) (g':=g1) rfl];exact e2
   ·rw[h1,List.replicate_succ']) (λσ g1 acc _=>(s3 g1 rfl rfl).1) (src.top+1) 0 [none,none] g [] (by omega) (by omega) ⟨rfl,.refl,none,none,rfl⟩
 subst c2
 have hit:Qcz (mVar 0) (mVar 1) [some (.tup ds),some (.tup ds)] g=.ok src g:=s1
 have c3:=Z9 (n:=2) (cap:=[]) (t:=QaF [gSet 0,gSet 1]) (c:=QP) (e:=Qn (QW f) (Qa (mVar 0) (Qa (mVar 1) mNil))) (σ0:=[none,none]) hit (by rw[s2];exact Ye (by omega)) rfl c1
 refine⟨g'++[.lst (List.replicate ds.length (.bl true))],QR rfl ?_,k1.trans (.push _)⟩
 show Z7 (QW f) [some (.tup ds),some (.tup ds)] g=_
 unfold Z7
 refine Qf [some (.tup ds),some (.tup ds)] g rfl (Qf [some (.tup ds),some (.tup ds)] g rfl (ZH (ift g rfl (Qf [some (.tup ds),some (.tup ds)] g rfl (Qf [some (.tup ds),some (.tup ds)] g (iff' g ?_ rfl) (QN (QI c3 ?_)))))))
 ·show(Res.ok false g).bind _=_
  rw[Res.bind_ok,Uh Ud]
  refine QL (Qg (x:=.int ds.length) (y:=.int ds.length) (g1:=g) (g2:=g) rfl rfl ?_)
  rw[ne_int,UP];rfl
 ·unfold pAll
  dsimp only
  rw[Qm]
  dsimp only
  have:∀k:Nat,allB (List.replicate k (D.bl true))=some true:=λk=>by
   induction k with
   |zero=>rfl
   |succ k ih=>rw[Tn,allB,ih];rfl
  rw[this]
theorem QhJ(w:Str)(i:Int):Sm 6 (.tup [.str w,.int i]):=by
 refine Qc4 5 _ (by simp) λd hd=>?_
 rcases UG.mp hd with rfl|hd
 ·exact QgI _ _
 ·rw[Ug.mp hd];exact Qfa _ _
theorem Qjd{d:D}(h:thingD [] d)(f:Nat):Sm (f+2) d:=by
 rcases h with rfl|⟨i,j,w,rfl⟩
 ·exact Qjc _
 ·refine Qc4 _ _ (by simp) λd hd=>?_
  rcases UG.mp hd with rfl|hd
  ·exact Qfa _ _
  ·rcases UG.mp hd with rfl|hd
   ·exact QgI _ _
   ·rw[Ug.mp hd];exact Qfa _ _
theorem Qje{rows:List (List D)}{n m:Nat}(h:TabW rows n m):Sm 6 (.tup (rows.map .tup)):=by
 refine Qc4 5 _ (by rw[Uc,h.len];have:=h.n4;omega) λd hd=>?_
 obtain⟨r,hr,rfl⟩:=UW.mp hd
 exact Qc4 4 _ (by rw[h.each r hr];have:=h.m4;omega) λd hd=>Qjd (h.ok r hr d hd).is.2.2.2 2
theorem Qfb{rows:List (List D)}{N t:Nat}{v:Nat}{σ:S3}{g:G}(h:tabOf N g t rows)(hv:σ[v]?=some (some (.ref t)))(hz:rows.length<=1000):
  ∃g',mOp1 ZF (Zm (Qt (mVar v)) 1 [] (gSet 0) QP (mOp1 ZF (mVar 0))) σ g=.ok (.tup (rows.map .tup)) g'/\Keeps [] g g':=by
 obtain⟨_,ds,h1,h2,h3⟩:=h
 have hq:Qs g (.ref t)=some (true,ds):=by simp only[Qs,h1]
 obtain⟨src,s1,s2,s3⟩:=Jm hq
 have mp:∀x∈ds,∃c r,Qs g x=some (c,r):=λx hx=>by
  obtain⟨i,hi,rfl⟩:=Rc hx
  obtain⟨l,e,_,_,q⟩:=h3 i ds[i] (rows[i]'(by omega)) (Ue hi) (Ue (by omega))
  exact⟨true,rows[i]'(by omega),by rw[e];simp only[Qs,q]⟩
 obtain⟨g1,c1,k1⟩:=Yv (src:=src) (ds:=ds) (e:=mOp1 ZF (mVar 0)) (no:=0) (σ:=[]) (g:=g) (f:=λx=>.tup (((Qs g x).map (·.2)).getD [])) s2 (λg1 i k=>s3 g1 i (k.seq hq)) (λx hx g1 k=>by
  obtain⟨c,r,q⟩:=mp x hx
  refine⟨g1,?_,.refl⟩
  simp[mOp1,mVar,Res.bind,QbG (k.seq q),q])
 have em:(ds.map λx=>D.tup (((Qs g x).map (·.2)).getD []))=rows.map .tup:=by
  apply Ws
  ·simp[h2]
  ·intro i hi hi'
   simp only[Uc]at hi hi'
   obtain⟨l,e,_,_,q⟩:=h3 i ds[i] rows[i] (Ue hi) (Ue hi')
   simp[e,Qs,q]
 rw[em]at c1
 have hit:Qt (mVar v) σ g=.ok src g:=by
  unfold Qt mVar;rw[hv];exact s1
 have c2:=Z9 (n:=1) (cap:=[]) (t:=gSet 0) (c:=QP) (e:=mOp1 ZF (mVar 0)) (σ0:=[none]) hit (by rw[s2];exact Ye (by omega)) rfl c1
 exact⟨g1++[.lst (rows.map .tup)],QI c2 (by unfold ZF;dsimp only;rw[Qm]),k1.trans (.push _)⟩
theorem Y1{all cs:List Nat}{i n:Nat}{x:Xc}{σ:S3}{g:G}(hv:σ[i]?=some (some (.ref n)))(h:g[n]?=some (.exc x))(ha:x.1∈all):Qk (mOp1 (Q5 all cs) (mVar i)) σ g=.ok (decide (x.1∈cs)) g:=by
 simp[hv,Q5,h,ha]
theorem Y2{a b:ME}{x y:D}{σ:S3}{g g1 g2:G}(ha:a σ g=.ok x g1)(hb:b σ g1=.ok y g2):mOpA pTup (Qa a (Qa b mNil)) σ g=.ok (.tup [x,y]) g2:=by
 unfold mOpA
 rw[Qo ha (Qo hb rfl),Res.bind_ok]
 exact Uf (TV (QbI (show 2<=1000 by decide)))
theorem Qc5{s:Str}{g g1:G}{x:Xc}(h:Qq [.str s] g=.raise x g1)(hx:x.1∈[0,1,2,3,4,5,6,7,8,9,10]):
  mTry (mAsg (gSet 1) (mOpA pTup (Qa (mLit (.str "read")) (Qa (Qn Qq (Qa (mVar 0) mNil)) mNil)))) [⟨[0,1,2,3,4,5,6,7,8,9,10],[],some 2,(mAsg (gSet 1) (mOpA pTup (Qa (mLit (.str "no")) (Qa (mVar 2) mNil))))⟩] [some (.str s),none,none,none] g
   = .nx [some (.str s),some (.tup [.str "no",.ref g1.length]),none,none] (g1++[.exc x]):=by
 have e1:mAsg (gSet 1) (mOpA pTup (Qa (mLit (.str "read")) (Qa (Qn Qq (Qa (mVar 0) mNil)) mNil))) [some (.str s),none,none,none] g=.raise x [some (.str s),none,none,none] g1:=by
  have c:Qn Qq (Qa (mVar 0) mNil) [some (.str s),none,none,none] g=.raise x g1:=by rw[Qy (ds:=[.str s]) (g':=g) rfl];exact h
  simp only[Qi5,Qi7,QhG,Qi6,c]
 unfold mTry
 rw[e1]
 dsimp only
 unfold runH
 rw[Uf hx]
 dsimp only
 rw[show mAsg (gSet 1) (mOpA pTup (Qa (mLit (.str "no")) (Qa (mVar 2) mNil))) ([some (.str s),none,none,none].set 2 (some (.ref g1.length))) (g1++[.exc x])=.nx [some (.str s),some (.tup [.str "no",.ref g1.length]),some (.ref g1.length),none] (g1++[.exc x]) from Qw (Y2 rfl rfl)]
 rfl
theorem QgJ:(Str.ofString "no" == Str.ofString "read")=false:=by decide +kernel
theorem Qfc{s:Str}{g g1:G}{i:Nat}(h:Qq [.str s] g=.raise (10,some i) g1)(k:Keeps [] g g1):∃g',QX [.str s] g=.ok (.tup [.str "text",.int i]) g'/\Keeps [] g g':=by
 refine⟨g1++[.exc (10,some i)],QR rfl ?_,k.trans (.push _)⟩
 show Z8 [some (.str s),none,none,none] g=_
 unfold Z8
 refine Qf _ _ (Qc5 h (by simp)) ?_
 have dx:(g1++[GO.exc (10,some i)])[g1.length]?=some (.exc (10,some i)):=Qm _
 generalize g1++[GO.exc (10,some i)]=g2 at dx
 refine Qf [some (.str s),some (.tup [.str "no",.ref g1.length]),none,none] g2 (iff' g2 (QL (Qg (ixT rfl rfl) rfl (by rw[eq_str,QgJ]))) rfl) ?_
 refine Qf [some (.str s),some (.tup [.str "no",.ref g1.length]),none,some (.ref g1.length)] g2 (Qw (ixT rfl rfl)) ?_
 refine Qf _ g2 (iff' g2 (Y1 rfl dx (by simp)) rfl) ?_
 refine ZH (ift g2 ?_ (QN (Y2 rfl (QI (x:=.ref g1.length) rfl (by unfold QfM;dsimp only;rw[dx];dsimp only;rw[Uf rfl])))))
 unfold ZC
 rw[Y1 rfl dx (by simp),Res.bind_ok]
 show(if decide (10∈[10])=true then _ else _)=_
 rw[Uf (by simp),Y1 rfl dx (by simp),Res.bind_ok]
 show(if decide (10∈[0,1,2,3,4,5,6,7,8,9,10])=true then _ else _)=_
 rw[Uf (by simp)]
 unfold Zl
 rw[Y1 rfl dx (by simp)];rfl
theorem told_mach{s:Str}{g g1:G}(h:Qq [.str s] g=.raise (1,none) g1)(k:Keeps [] g g1):∃g',QX [.str s] g=.ok (.tup [.str "machine",.int 0]) g'/\Keeps [] g g':=by
 refine⟨g1++[.exc (1,none)],QR rfl ?_,k.trans (.push _)⟩
 show Z8 [some (.str s),none,none,none] g=_
 unfold Z8
 refine Qf _ _ (Qc5 h (by decide)) ?_
 have dx:(g1++[GO.exc (1,none)])[g1.length]?=some (.exc (1,none)):=Qm _
 generalize g1++[GO.exc (1,none)]=g2 at dx
 refine Qf [some (.str s),some (.tup [.str "no",.ref g1.length]),none,none] g2 (iff' g2 (QL (Qg (ixT rfl rfl) rfl (by rw[eq_str,QgJ]))) rfl) ?_
 refine Qf [some (.str s),some (.tup [.str "no",.ref g1.length]),none,some (.ref g1.length)] g2 (Qw (ixT rfl rfl)) ?_
 refine Qf _ g2 (iff' g2 (Y1 rfl dx (by decide)) rfl) ?_
 refine Qf _ g2 (iff' g2 ?_ rfl) ?_
 ·unfold ZC
  rw[Y1 rfl dx (by decide),Res.bind_ok]
  show(if decide (1∈[10])=true then _ else _)=_
  rw[Uh (by decide)]
 refine ZH (ift g2 ?_ (QN (Y2 rfl rfl)))
 unfold ZC
 rw[Y1 rfl dx (by decide),Res.bind_ok]
 show(if decide (1∈[1])=true then _ else _)=_
 rw[Uf (by decide),Y1 rfl dx (by decide),Res.bind_ok]
 show(if decide (1∈[0,1,2,3,4,5,6,7,8,9,10])=true then _ else _)=_
 rw[Uf (by decide)]
 unfold Zl
 rw[Y1 rfl dx (by decide)];rfl
theorem told_read{s:Str}{g g1:G}{M:Nat}(h:Qq [.str s] g=.ok (.ref M) g1):QX [.str s] g=.ok (.tup [.str "read",.ref M]) g1:=by
 refine QR rfl ?_
 show Z8 [some (.str s),none,none,none] g=_
 unfold Z8
 refine Qf [some (.str s),some (.tup [.str "read",.ref M]),none,none] g1 ?_ ?_
 ·unfold mTry
  rw[show mAsg (gSet 1) (mOpA pTup (Qa (mLit (.str "read")) (Qa (Qn Qq (Qa (mVar 0) mNil)) mNil))) [some (.str s),none,none,none] g=.nx [some (.str s),some (.tup [.str "read",.ref M]),none,none] g1 from Qw (Y2 rfl (by rw[Qy (ds:=[.str s]) (g':=g) rfl];exact h))]
 ·exact ZH (ift g1 (QL (Qg (ixT rfl rfl) rfl (by rw[eq_str,UP]))) (QN rfl))
structure BadR(l:List Str):Prop where
 ne:l≠[]
 pc:∀p∈l,Pc p
 len:l.length<=6
 bad:allT l=false
noncomputable def bads:List Str:=[ofL [],ofL [45,45],ofL [114,48],ofL [49,114],ofL [49],ofL [49,120,48],ofL [48,49,114,48],ofL [49,114,48,48],ofL [45,49,114,48],ofL [43,49,114,48],ofL [49,82,48],ofL [49,114,114,48],ofL [49,114,48,108],
 ofL [49,114,45,49],ofL [49,114,48,120],ofL [108],ofL (49::(List.replicate 60 48++[114,48])),ofL (48::108::49::List.replicate 60 48),ofL [49,46,48,114,48]]
noncomputable def Zc:Str:=ofL [48,32,108]
noncomputable def pcB(s:Str):Bool:=(s.cps.toList.all λc=>decide (c<128)) && decide (s.length<=100) && decide (32∉s.cps.toList) && decide (10∉s.cps.toList) && !(Yy s.cps.toList)
theorem Qgc:(bads++[ofL [48],ofL [108]]).all pcB=true:=by decide +kernel
theorem Qjf{s:Str}(h:pcB s=true):Pc s/\Yy s.cps.toList=false:=by
 unfold pcB at h
 simp only[UC,TB,Wh]at h
 obtain⟨⟨⟨⟨h1,h2⟩,h3⟩,h4⟩,h5⟩:=h
 exact⟨⟨⟨h1,h2⟩,h3,h4⟩,h5⟩
theorem Qa4{s:Str}(h:s∈bads++[ofL [48],ofL [108]]):Pc s/\Yy s.cps.toList=false:=Qjf (Ux.mp Qgc s h)
theorem bads_nil:Pc (ofL [])/\Yy (ofL []).cps.toList=false:=Qa4 (by decide +kernel)
theorem Yw{l:List Str}{p:Str}(hp:p∈l)(h:Yy p.cps.toList=false):allT l=false:=by
 cases hb:allT l with
 |false=>rfl
 |true =>
  have:=Ux.mp hb p hp
  rw[h]at this;cases this
theorem QbQ(x y z:Str):x++y++z=x++(y++z):=by
 have:(x++y++z).cps=(x++(y++z)).cps:=TQ
 obtain⟨⟩:=x;obtain⟨⟩:=y;obtain⟨⟩:=z
 exact TU Str.mk this
theorem Qfd(x:Str):x++ofL []=x:=by
 obtain⟨a⟩:=x
 show Str.mk (a ++ #[])=_
 rw[Array.append_empty]
theorem QhK(x:Str):ofL []++x=x:=by
 obtain⟨a⟩:=x
 show Str.mk (#[]++a)=_
 rw[Array.empty_append]
theorem Qc6{sep q1 q2:Str}{b:List Str}:∀a:List Str,Str.join sep (a++(q1++sep++q2)::b)=Str.join sep (a++q1::q2::b)
 |[]=>by
  cases b with
  |nil=>rfl
  |cons t r =>
   show q1++sep++q2++sep++Str.join sep (t::r)=q1++sep++(q2++sep++Str.join sep (t::r))
   simp only[QbQ]
 |s::a=>by
  have ih:=Qc6 (sep:=sep) (q1:=q1) (q2:=q2) (b:=b) a
  cases a with
  |nil =>
   show s++sep++Str.join sep ((q1++sep++q2)::b)=s++sep++Str.join sep (q1::q2::b)
   rw[show Str.join sep ((q1++sep++q2)::b)=Str.join sep (q1::q2::b) from ih]
  |cons t r =>
   show s++sep++Str.join sep (t::r++(q1++sep++q2)::b)=s++sep++Str.join sep (t::r++q1::q2::b)
   rw[ih]
section
variable{l:List Str}(hl:l≠[])(hp:∀p∈l,Pc p)(hm:l.length<=4)
include hl hp hm
theorem QhL:∃l',BadR l'/\lnT l++ofL [32]=lnT l':=by
 refine⟨l++[ofL []],⟨by simp,λp h=>?_,by simp;omega,Yw (p:=ofL []) (by simp) bads_nil.2⟩,?_⟩
 ·rcases UB.mp h with h|h
  ·exact hp p h
  ·rw[Ug.mp h];exact bads_nil.1
 ·unfold lnT
  rw[YZ hl (by simp)]
  exact(Qfd _).symm
theorem Qgd:∃l',BadR l'/\ofL [32]++lnT l=lnT l':=by
 refine⟨[ofL []]++l,⟨by simp,λp h=>?_,by simp;omega,Yw (p:=ofL []) (by simp) bads_nil.2⟩,?_⟩
 ·rcases UB.mp h with h|h
  ·rw[Ug.mp h];exact bads_nil.1
  ·exact hp p h
 ·unfold lnT
  rw[YZ (by simp) hl]
  show _=ofL []++ofL [32]++_
  rw[QhK]
theorem QhM(i:Nat):BadR (l.take i++[ofL []]++l.drop i):=by
 refine⟨by simp,λp h=>?_,?_,Yw (p:=ofL []) (by simp) bads_nil.2⟩
 ·rcases UB.mp h with h|h
  ·rcases UB.mp h with h|h
   ·exact hp p (RK h)
   ·rw[Ug.mp h];exact bads_nil.1
  ·exact hp p (Tg h)
 ·have:(l.take i++[ofL []]++l.drop i).length=l.length+1:=by
   have:=TU List.length (WD i l)
   simp only[UD,RB]at this ⊢
   omega
  omega
theorem QhN{i:Nat}(hi:i<l.length){p:Str}(h:p∈bads++[Zc]):∃l',BadR l'/\lnT (l.set i p)=lnT l':=by
 have hset:∀q:Str,l.set i q=l.take i++q::l.drop (i+1):=λq=>by
  rw[Tu,Uf hi]
 have mt:∀x,x∈l.take i\/x∈l.drop (i+1)->Pc x:=λx hx=>hx.elim (λz=>hp x (RK z)) λz=>hp x (Tg z)
 have hlen:(l.take i).length+(l.drop (i+1)).length+1=l.length:=by rw[U3,Td];omega
 rcases UB.mp h with h|h
 ·have hb:=Qa4 (s:=p) (UY _ h)
  refine⟨l.set i p,⟨by rw[hset];simp,λx hx=>?_,by rw[UR];omega,Yw (p:=p) (by rw[hset];simp) hb.2⟩,rfl⟩
  rw[hset]at hx
  rcases UB.mp hx with hx|hx
  ·exact mt x (.inl hx)
  ·rcases UG.mp hx with hx|hx
   ·rw[hx];exact hb.1
   ·exact mt x (.inr hx)
 ·rw[Ug.mp h]
  have h0:=Qa4 (s:=ofL [48]) (Uu _ (by simp))
  have h1:=Qa4 (s:=ofL [108]) (Uu _ (by simp))
  refine⟨l.take i++ofL [48]::ofL [108]::l.drop (i+1),⟨by simp,λx hx=>?_,?_,Yw (p:=ofL [48]) (by simp) h0.2⟩,?_⟩
  ·rcases UB.mp hx with hx|hx
   ·exact mt x (.inl hx)
   ·rcases UG.mp hx with hx|hx
    ·rw[hx];exact h0.1
    ·rcases UG.mp hx with hx|hx
     ·rw[hx];exact h1.1
     ·exact mt x (.inr hx)
  ·simp only[UD,Uz];omega
  ·unfold lnT
   rw[hset,show Zc=ofL [48]++ofL [32]++ofL [108] from by decide +kernel,Qc6]
end
theorem Qjg:[Str.ofString "",Str.ofString "--",Str.ofString "r0",Str.ofString "1r",Str.ofString "1",Str.ofString "1x0",Str.ofString "01r0",Str.ofString "1r00",Str.ofString "-1r0",Str.ofString "+1r0",Str.ofString "1R0",Str.ofString "1rr0",Str.ofString "1r0l",
 Str.ofString "1r-1",Str.ofString "1r0x",Str.ofString "l",Str.ofString "1" ++ repS (Str.ofString "0") 60++Str.ofString "r0",Str.ofString "0l1" ++ repS (Str.ofString "0") 60,Str.ofString "1.0r0",Str.ofString "0 l"]=bads++[Zc]:=by decide +kernel
theorem atN{α:Type}{xs:List α}{i:Nat}(h:i<xs.length):atD xs (i:Int)=some xs[i]:=by
 unfold atD ixD
 rw[Uf (by omega),Uf (by omega),UX]
 exact Ue h
theorem ixL{n:Nat}{ds:List D}{i:Nat}{g:G}(h:g[n]?=some (.lst ds))(hi:i<ds.length):pIx (.ref n) (.int (i:Int)) g=.ok ds[i] g:=by
 unfold pIx;dsimp only;rw[h];dsimp only;rw[atN hi]
theorem addL{n m:Nat}{xs ys:List D}{g:G}(h:g[n]?=some (.lst xs))(h2:g[m]?=some (.lst ys))(hz:xs.length+ys.length<=10000):pAdd (.ref n) (.ref m) g=.ok (.ref g.length) (g++[.lst (xs++ys)]):=by
 unfold pAdd;dsimp only;rw[h,h2];dsimp only;rw[Uf (Ye hz)]
theorem YJ{a:MA}{ds:List D}{σ:S3}{g g':G}(h:a σ g=.ok ds g')(hz:ds.length<=10000):mOpA newL a σ g=.ok (.ref g'.length) (g'++[.lst ds]):=by
 unfold mOpA;rw[h,Res.bind_ok];unfold newL;rw[Uf (Ye hz)]
theorem Y3{o i v:ME}{σ:S3}{n j:Nat}{y:D}{ds:List D}{g g1:G}(hv:v σ g=.ok y g1)(ho:o σ g1=.ok (.ref n) g1)(hi:i σ g1=.ok (.int (j:Int)) g1)(h:g1[n]?=some (.lst ds))(hj:j<ds.length):Zz o i v σ g=.nx σ (g1.set n (.lst (ds.set j y))):=by
 unfold Zz
 rw[hv];dsimp only;rw[ho];dsimp only;rw[hi];dsimp only;rw[h];dsimp only
 unfold ixD
 rw[Uf (by omega),Uf (by omega),UX]
theorem QhO{n i:Nat}{ds:List D}{a b:Nat}{σ:S3}{g:G}(ha:σ[a]?=some (some (.ref n)))(hb:σ[b]?=some (some (.int (i:Int))))(h:g[n]?=some (.lst ds))(hi:i<=ds.length):JH (mVar a) YD (Qbq (mVar b)) σ g=.ok (.ref g.length) (g++[.lst (ds.take i)]):=by
 have e:cutD ds none (some (i:Int))=ds.take i:=by
  unfold cutD sIxD
  dsimp only
  rw[Uh (by omega),UX,Wz hi];simp
 simp[JH,YD,Qbq,Res.bind,ha,hb,QcA,h,e]
theorem Qfe{n i:Nat}{ds:List D}{a b:Nat}{σ:S3}{g:G}(ha:σ[a]?=some (some (.ref n)))(hb:σ[b]?=some (some (.int (i:Int))))(h:g[n]?=some (.lst ds))(hi:i<=ds.length):JH (mVar a) (Qbq (mVar b)) YD σ g=.ok (.ref g.length) (g++[.lst (ds.drop i)]):=by
 have e:cutD ds (some (i:Int)) none=ds.drop i:=by
  unfold cutD sIxD
  dsimp only
  rw[Uh (by omega),UX,Wz hi]
  exact Rw (by simp)
 simp[JH,YD,Qbq,Res.bind,ha,hb,QcA,h,e]
theorem QjT{l:List Str}{n:Nat}{g:G}(h:BadR l)(hg:g[n]?=some (.lst (l.map .str))):YF (.str " ") (.ref n) g=.ok (.str (lnT l)) g:=by
 rw[s_sp]
 exact Qe4 rfl hg (by have:=(Qaa h.pc h.len).1;have:=h.len;omega)
theorem Qax(ns:List Int)(a:Nat)(k:Int)(g:G)(ga:g[a]?=some (.lst [.int k]))(hk:0<=k)(hk2:k<900000000){l:List Str}(hl:l≠[])(hp:∀p∈l,Pc p)(hm:l.length<=4):
  ∃l' g',BadR l'/\Zd [.fl (ns.map .int),.ref a,.str (lnT l)] g=.ok (.str (lnT l')) g'/\g'[a]?=some (.lst [.int (k+1)])/\Keeps [a] g g':=by
 obtain⟨q,q1,q2,e1⟩:=Jf ns a k g ga hk (by omega)
 have ga1:(g.set a (.lst [.int (k+1)]))[a]?=some (.lst [.int (k+1)]):=Q8 ga
 have k1:Keeps [a] g (g.set a (.lst [.int (k+1)])):=.set a _
 generalize g.set a (.lst [.int (k+1)])=g1 at e1 ga1 k1
 have ll:=(Qaa hp (by omega)).2
 have l0:0<l.length:=List.length_pos_iff.mpr hl
 have e2:mSM Za (mVar 2) (mLit (.str " ")) [some (.fl (ns.map .int)),some (.ref a),some (.str (lnT l)),some (.int q),none,none,none] g1=.ok (.ref g1.length) (g1++[.lst (l.map .str)]):=by
  refine smOk rfl rfl ?_
  rw[s_sp,QbM (by omega) (by decide),Qe7 hp hl]
 have k2:Keeps [] g1 (g1++[.lst (l.map .str)]):=.push _
 have dP:(g1++[.lst (l.map D.str)])[g1.length]?=some (.lst (l.map .str)):=Qm _
 have hal:a<g1.length:=Q0 ga1
 generalize hP:g1.length=P at e2 dP hal
 generalize g1++[.lst (l.map D.str)]=g2 at e2 k2 dP
 have ga2:=k2.at' _ _ (by simp) ga1
 obtain⟨sp,hsp⟩:∃sp:Nat,q/9 % (l.length:Int)=sp:=⟨(q/9 % (l.length:Int)).toNat,by have:=U7 (q/9) (show(l.length:Int)≠0 by omega);omega⟩
 have hspl:sp<l.length:=by have:=U2 (q/9) (show(0:Int)<l.length by omega);omega
 have st1:mAsg (gSet 3) (Qn QV (Qa (mVar 0) (Qa (mVar 1) mNil))) [some (.fl (ns.map .int)),some (.ref a),some (.str (lnT l)),none,none,none,none] g=.nx [some (.fl (ns.map .int)),some (.ref a),some (.str (lnT l)),some (.int q),none,none,none] g1:=Qw (by rw[Qy (ds:=[.fl (ns.map .int),.ref a]) (g':=g) rfl];exact e1)
 have st3:mAsg (gSet 5) (mOp2 pMod (mOp2 Q7 (mVar 3) (mLit (.int 9))) (mOp1 pLen (mVar 4))) [some (.fl (ns.map .int)),some (.ref a),some (.str (lnT l)),some (.int q),some (.ref P),none,none] g2=.nx [some (.fl (ns.map .int)),some (.ref a),some (.str (lnT l)),some (.int q),some (.ref P),some (.int (sp:Int)),none] g2:=by
  refine Qw (Qg (x:=.int (q/9)) (y:=.int l.length) (g1:=g2) (g2:=g2) (Qg rfl rfl (divP (by decide) (by decide))) (QI rfl (by rw[Yn dP,Uc])) ?_)
  rw[modP (by omega),hsp]
 have tst:∀c:Int,Qk (mOp2 pEq (mOp2 pMod (mVar 3) (mLit (.int 9))) (mLit (.int c))) [some (.fl (ns.map .int)),some (.ref a),some (.str (lnT l)),some (.int q),some (.ref P),some (.int (sp:Int)),none] g2=.ok (q%9 == c) g2:=λc=>QL (Qg (x:=.int (q%9)) (g1:=g2) (Qg rfl rfl (modP (by decide))) rfl (eq_int _ _ _))
 have go:∀(l':List Str)(g':G)(R:MS),BadR l'->R [some (.fl (ns.map .int)),some (.ref a),some (.str (lnT l)),some (.int q),some (.ref P),some (.int (sp:Int)),none] g2=.rt (.str (lnT l')) g'->(ZP=mSeq (mAsg (gSet 3) (Qn QV (Qa (mVar 0) (Qa (mVar 1) mNil)))) (mSeq (mAsg (gSet 4) (mSM Za (mVar 2) (mLit (.str " ")))) (mSeq (mAsg (gSet 5) (mOp2 pMod (mOp2 Q7 (mVar 3) (mLit (.int 9))) (mOp1 pLen (mVar 4)))) R)))->g'[a]?=some (.lst [.int (k+1)])->Keeps [a] g2 g' ->
   ∃l' g',BadR l'/\Zd [.fl (ns.map .int),.ref a,.str (lnT l)] g=.ok (.str (lnT l')) g'/\g'[a]?=some (.lst [.int (k+1)])/\Keeps [a] g g':=λl' g' R hb hR he hga hk=>by
  refine⟨l',g',hb,QR rfl ?_,hga,k1.trans (k2.all.trans hk)⟩
  show ZP [some (.fl (ns.map .int)),some (.ref a),some (.str (lnT l)),none,none,none,none] g=_
  rw[he]
  exact Qf _ g1 st1 (Qf _ g2 (Qw e2) (Qf _ g2 st3 hR))
 by_cases c0:q%9=0
 ·obtain⟨l',hb,e⟩:=QhL hl hp hm
  refine go l' g2 _ hb (ZH (ift g2 ((tst 0).trans (by rw[c0];rfl)) (QN (Qg rfl rfl ?_)))) rfl ga2 .refl
  rw[s_sp,addS (by rw[QcY];simp;omega),e]
 by_cases c1:q%9=1
 ·obtain⟨l',hb,e⟩:=Qgd hl hp hm
  refine go l' g2 _ hb (Qf _ g2 (iff' g2 ((tst 0).trans (by rw[Uq.mpr c0])) rfl) (ZH (ift g2 ((tst 1).trans (by rw[c1];rfl)) (QN (Qg rfl rfl ?_))))) rfl ga2 .refl
  rw[s_sp,addS (by rw[QcY];simp;omega),e]
 by_cases c2:q%9=2
 ·have hb:=QhM hl hp hm sp
  have hlm:(l.map D.str).length=l.length:=Uc _
  have x1:=QhO (a:=4) (b:=5) (σ:=[some (.fl (ns.map .int)),some (.ref a),some (.str (lnT l)),some (.int q),some (.ref P),some (.int (sp:Int)),none]) rfl rfl dP (i:=sp) (by omega)
  have y1:Keeps [] g2 (g2++[.lst ((l.map D.str).take sp)]):=.push _
  have z1:(g2++[.lst ((l.map D.str).take sp)])[g2.length]?=some (.lst ((l.map D.str).take sp)):=Qm _
  generalize g2.length=A1 at x1 z1
  generalize g2++[.lst ((l.map D.str).take sp)]=g3 at x1 y1 z1
  have x2:mOpA newL (Qa (mLit (.str "")) mNil) [some (.fl (ns.map .int)),some (.ref a),some (.str (lnT l)),some (.int q),some (.ref P),some (.int (sp:Int)),none] g3=.ok (.ref g3.length) (g3++[.lst [.str ""]]):=YJ rfl (by simp)
  have y2:Keeps [] g3 (g3++[.lst [.str ""]]):=.push _
  have z2:(g3++[.lst [D.str ""]])[g3.length]?=some (.lst [.str ""]):=Qm _
  generalize g3.length=A2 at x2 z2
  generalize g3++[.lst [D.str ""]]=g4 at x2 y2 z2
  have x3:=addL (y2.at' _ _ (by simp) z1) z2 (by simp;omega)
  have y3:Keeps [] g4 (g4++[.lst ((l.map D.str).take sp++[.str ""])]):=.push _
  have z3:(g4++[.lst ((l.map D.str).take sp++[.str ""])])[g4.length]?=some (.lst ((l.map D.str).take sp++[.str ""])):=Qm _
  generalize g4.length=A3 at x3 z3
  generalize g4++[.lst ((l.map D.str).take sp++[.str ""])]=g5 at x3 y3 z3
  have dP5:=y3.at' _ _ (by simp) (y2.at' _ _ (by simp) (y1.at' _ _ (by simp) dP))
  have x4:=Qfe (a:=4) (b:=5) (σ:=[some (.fl (ns.map .int)),some (.ref a),some (.str (lnT l)),some (.int q),some (.ref P),some (.int (sp:Int)),none]) rfl rfl dP5 (i:=sp) (by omega)
  have y4:Keeps [] g5 (g5++[.lst ((l.map D.str).drop sp)]):=.push _
  have z4:(g5++[.lst ((l.map D.str).drop sp)])[g5.length]?=some (.lst ((l.map D.str).drop sp)):=Qm _
  generalize g5.length=A4 at x4 z4
  generalize g5++[.lst ((l.map D.str).drop sp)]=g6 at x4 y4 z4
  have x5:=addL (y4.at' _ _ (by simp) z3) z4 (by simp;omega)
  have y5:Keeps [] g6 (g6++[.lst ((l.map D.str).take sp++[.str ""]++(l.map D.str).drop sp)]):=.push _
  have z5:(g6++[.lst ((l.map D.str).take sp++[.str ""]++(l.map D.str).drop sp)])[g6.length]?=some (.lst ((l.map D.str).take sp++[.str ""]++(l.map D.str).drop sp)):=Qm _
  generalize g6.length=A5 at x5 z5
  generalize g6++[.lst ((l.map D.str).take sp++[.str ""]++(l.map D.str).drop sp)]=g7 at x5 y5 z5
  have em:(l.map D.str).take sp++[.str ""]++(l.map D.str).drop sp=(l.take sp++[ofL []]++l.drop sp).map .str:=by
   rw[show Str.ofString "" = ofL [] from by decide +kernel,UU,UU,List.map_take,List.map_drop];rfl
  rw[em]at z5
  have kk:Keeps [] g2 g7:=y1.trans (y2.trans (y3.trans (y4.trans y5)))
  refine go _ g7 _ hb (Qf _ g2 (iff' g2 ((tst 0).trans (by rw[Uq.mpr c0])) rfl) (Qf _ g2 (iff' g2 ((tst 1).trans (by rw[Uq.mpr c1])) rfl) (ZH (ift g2 ((tst 2).trans (by rw[c2];rfl)) (QN (smOk (g1:=g2) rfl (Qg (Qg x1 x2 x3) x4 x5) (QjT hb z5))))))) rfl (kk.at' _ _ (by simp) ga2) kk.all
 -- a piece in another's place
 have w1:mOpA newL (Qa (mLit (.str "")) (Qa (mLit (.str "--")) (Qa (mLit (.str "r0")) (Qa (mLit (.str "1r")) (Qa (mLit (.str "1")) (Qa (mLit (.str "1x0")) (Qa (mLit (.str "01r0")) (Qa (mLit (.str "1r00")) (Qa (mLit (.str "-1r0")) (Qa (mLit (.str "+1r0")) (Qa (mLit (.str "1R0")) (Qa (mLit (.str "1rr0")) (Qa (mLit (.str "1r0l")) mNil))))))))))))) [some (.fl (ns.map .int)),some (.ref a),some (.str (lnT l)),some (.int q),some (.ref P),some (.int (sp:Int)),none] g2=.ok (.ref g2.length) (g2++[.lst ([Str.ofString "",Str.ofString "--",Str.ofString "r0",Str.ofString "1r",Str.ofString "1",Str.ofString "1x0",Str.ofString "01r0",Str.ofString "1r00",Str.ofString "-1r0",Str.ofString "+1r0",Str.ofString "1R0",Str.ofString "1rr0",Str.ofString "1r0l"].map D.str)]):=YJ rfl (by simp)
 have y1:Keeps [] g2 (g2++[.lst ([Str.ofString "",Str.ofString "--",Str.ofString "r0",Str.ofString "1r",Str.ofString "1",Str.ofString "1x0",Str.ofString "01r0",Str.ofString "1r00",Str.ofString "-1r0",Str.ofString "+1r0",Str.ofString "1R0",Str.ofString "1rr0",Str.ofString "1r0l"].map D.str)]):=.push _
 have z1:(g2++[.lst ([Str.ofString "",Str.ofString "--",Str.ofString "r0",Str.ofString "1r",Str.ofString "1",Str.ofString "1x0",Str.ofString "01r0",Str.ofString "1r00",Str.ofString "-1r0",Str.ofString "+1r0",Str.ofString "1R0",Str.ofString "1rr0",Str.ofString "1r0l"].map D.str)])[g2.length]?=some (.lst ([Str.ofString "",Str.ofString "--",Str.ofString "r0",Str.ofString "1r",Str.ofString "1",Str.ofString "1x0",Str.ofString "01r0",Str.ofString "1r00",Str.ofString "-1r0",Str.ofString "+1r0",Str.ofString "1R0",Str.ofString "1rr0",Str.ofString "1r0l"].map D.str)):=Qm _
 generalize g2.length=A1 at w1 z1
 generalize (g2++[.lst ([Str.ofString "",Str.ofString "--",Str.ofString "r0",Str.ofString "1r",Str.ofString "1",Str.ofString "1x0",Str.ofString "01r0",Str.ofString "1r00",Str.ofString "-1r0",Str.ofString "+1r0",Str.ofString "1R0",Str.ofString "1rr0",Str.ofString "1r0l"].map D.str)])=g3 at w1 y1 z1
 have mul60:∀(σ:S3)(g:G),mOp2 pMul (mLit (.str "0")) (mLit (.int 60)) σ g=.ok (.str (repS (Str.ofString "0") 60)) g:=λσ g=>Qg rfl rfl (by unfold pMul;dsimp only;rw[Uf (by decide +kernel)];rfl)
 have lr:(repS (Str.ofString "0") 60).length=60:=by decide +kernel
 have a16:∀(σ:S3)(g:G),mOp2 pAdd (mOp2 pAdd (mLit (.str "1")) (mOp2 pMul (mLit (.str "0")) (mLit (.int 60)))) (mLit (.str "r0")) σ g=.ok (.str (Str.ofString "1" ++ repS (Str.ofString "0") 60++Str.ofString "r0")) g:=λσ g=>Qg (Qg rfl (mul60 σ g) (addS (by rw[lr];decide +kernel))) rfl (addS (by decide +kernel))
 have a17:∀(σ:S3)(g:G),mOp2 pAdd (mLit (.str "0l1")) (mOp2 pMul (mLit (.str "0")) (mLit (.int 60))) σ g=.ok (.str (Str.ofString "0l1" ++ repS (Str.ofString "0") 60)) g:=λσ g=>Qg rfl (mul60 σ g) (addS (by rw[lr];decide +kernel))
 have w2:mOpA newL (Qa (mLit (.str "1r-1")) (Qa (mLit (.str "1r0x")) (Qa (mLit (.str "l")) (Qa (mOp2 pAdd (mOp2 pAdd (mLit (.str "1")) (mOp2 pMul (mLit (.str "0")) (mLit (.int 60)))) (mLit (.str "r0"))) (Qa (mOp2 pAdd (mLit (.str "0l1")) (mOp2 pMul (mLit (.str "0")) (mLit (.int 60)))) (Qa (mLit (.str "1.0r0")) (Qa (mLit (.str "0 l")) mNil))))))) [some (.fl (ns.map .int)),some (.ref a),some (.str (lnT l)),some (.int q),some (.ref P),some (.int (sp:Int)),some (.ref A1)] g3=.ok (.ref g3.length) (g3++[.lst ([Str.ofString "1r-1",Str.ofString "1r0x",Str.ofString "l",Str.ofString "1" ++ repS (Str.ofString "0") 60++Str.ofString "r0",Str.ofString "0l1" ++ repS (Str.ofString "0") 60,Str.ofString "1.0r0",Str.ofString "0 l"].map D.str)]) :=
  YJ (Qo rfl (Qo rfl (Qo rfl (Qo (a16 _ _) (Qo (a17 _ _) (Qo rfl (Qo rfl rfl))))))) (by simp)
 have y2:Keeps [] g3 (g3++[.lst ([Str.ofString "1r-1",Str.ofString "1r0x",Str.ofString "l",Str.ofString "1" ++ repS (Str.ofString "0") 60++Str.ofString "r0",Str.ofString "0l1" ++ repS (Str.ofString "0") 60,Str.ofString "1.0r0",Str.ofString "0 l"].map D.str)]):=.push _
 have z2:(g3++[.lst ([Str.ofString "1r-1",Str.ofString "1r0x",Str.ofString "l",Str.ofString "1" ++ repS (Str.ofString "0") 60++Str.ofString "r0",Str.ofString "0l1" ++ repS (Str.ofString "0") 60,Str.ofString "1.0r0",Str.ofString "0 l"].map D.str)])[g3.length]?=some (.lst ([Str.ofString "1r-1",Str.ofString "1r0x",Str.ofString "l",Str.ofString "1" ++ repS (Str.ofString "0") 60++Str.ofString "r0",Str.ofString "0l1" ++ repS (Str.ofString "0") 60,Str.ofString "1.0r0",Str.ofString "0 l"].map D.str)):=Qm _
 generalize g3.length=A2 at w2 z2
 generalize (g3++[.lst ([Str.ofString "1r-1",Str.ofString "1r0x",Str.ofString "l",Str.ofString "1" ++ repS (Str.ofString "0") 60++Str.ofString "r0",Str.ofString "0l1" ++ repS (Str.ofString "0") 60,Str.ofString "1.0r0",Str.ofString "0 l"].map D.str)])=g4 at w2 y2 z2
 have w3:=addL (y2.at' _ _ (by simp) z1) z2 (by simp)
 rw[<-UU,show [Str.ofString "",Str.ofString "--",Str.ofString "r0",Str.ofString "1r",Str.ofString "1",Str.ofString "1x0",Str.ofString "01r0",Str.ofString "1r00",Str.ofString "-1r0",Str.ofString "+1r0",Str.ofString "1R0",Str.ofString "1rr0",Str.ofString "1r0l"]++[Str.ofString "1r-1",Str.ofString "1r0x",Str.ofString "l",Str.ofString "1" ++ repS (Str.ofString "0") 60++Str.ofString "r0",Str.ofString "0l1" ++ repS (Str.ofString "0") 60,Str.ofString "1.0r0",Str.ofString "0 l"]=bads++[Zc] from Qjg]at w3
 have y3:Keeps [] g4 (g4++[.lst ((bads++[Zc]).map .str)]):=.push _
 have z3:(g4++[.lst ((bads++[Zc]).map D.str)])[g4.length]?=some (.lst ((bads++[Zc]).map .str)):=Qm _
 generalize g4.length=A3 at w3 z3
 generalize g4++[.lst ((bads++[Zc]).map D.str)]=g5 at w3 y3 z3
 have dP5:=y3.at' _ _ (by simp) (y2.at' _ _ (by simp) (y1.at' _ _ (by simp) dP))
 have kk:Keeps [] g2 g5:=y1.trans (y2.trans y3)
 obtain⟨ix,hix⟩:∃ix:Nat,q/100%20=ix:=⟨(q/100%20).toNat,by omega⟩
 have hixl:ix<(bads++[Zc]).length:=by show ix<20;omega
 have hixl':ix<((bads++[Zc]).map D.str).length:=by rw[Uc];exact hixl
 obtain⟨l',hb,el⟩:=QhN hl hp hm hspl (p:=(bads++[Zc])[ix]) (Ut hixl)
 have w4:Zz (mVar 4) (mVar 5) (mOp2 pIx (mVar 6) (mOp2 pMod (mOp2 Q7 (mVar 3) (mLit (.int 100))) (mLit (.int 20)))) [some (.fl (ns.map .int)),some (.ref a),some (.str (lnT l)),some (.int q),some (.ref P),some (.int (sp:Int)),some (.ref A3)] g5=.nx [some (.fl (ns.map .int)),some (.ref a),some (.str (lnT l)),some (.int q),some (.ref P),some (.int (sp:Int)),some (.ref A3)] (g5.set P (.lst ((l.map D.str).set sp (.str (bads++[Zc])[ix])))):=by
  refine Y3 (Qg (x:=.ref A3) (y:=.int (ix:Int)) (g1:=g5) (g2:=g5) rfl (Qg (x:=.int (q/100)) (g1:=g5) (Qg rfl rfl (divP (by decide) (by decide))) rfl ?_) ?_) rfl rfl dP5 (by rw[Uc];exact hspl)
  ·rw[modP (by decide),hix]
  ·rw[ixL z3 hixl',UV];try rfl
 have kP:Keeps [P] g5 (g5.set P (.lst ((l.map D.str).set sp (.str (bads++[Zc])[ix])))):=.set _ _
 have dP6:(g5.set P (.lst ((l.map D.str).set sp (.str (bads++[Zc])[ix]))))[P]?=some (.lst ((l.map D.str).set sp (.str (bads++[Zc])[ix]))):=Q8 dP5
 rw[<-RA]at w4 kP dP6
 generalize g5.set P (.lst ((l.set sp (bads++[Zc])[ix]).map D.str))=g6 at w4 kP dP6
 have hne:a∉[P]:=by simp;omega
 have hj:YF (.str " ") (.ref P) g6=.ok (.str (lnT l')) g6:=by
  rw[s_sp,<-el]
  refine Qe4 rfl dP6 ?_
  have hs:sumL (l.set sp (bads++[Zc])[ix])<=(l.set sp (bads++[Zc])[ix]).length*100:=Qe3 λs hs=>by
   rcases Tv hs with z|z
   ·exact(hp s z).l
   ·rw[z]
    have hm2:(bads++[Zc])[ix]∈bads++[Zc]:=Ut hixl
    have:((bads++[Zc]).all λs=>decide (s.length<=100))=true:=by decide +kernel
    exact U5 (Ux.mp this _ hm2)
  rw[UR]at hs ⊢
  omega
 have kk2:∀(n:Nat)(o:GO),n∉[a]->g[n]?=some o->g6[n]?=some o:=λn o hn hg=>by
  have h1:=k1.at' n o hn hg
  have hlt:=Q0 h1
  exact kP.at' n o (by simp;omega) (kk.at' n o (by simp) (k2.at' n o (by simp) h1))
 refine⟨l',g6,hb,QR rfl ?_,kP.at' _ _ hne (kk.at' _ _ (by simp) ga2),⟨Uo k1.len (Uo k2.len (Uo kk.len kP.len)),kk2⟩⟩
 show ZP [some (.fl (ns.map .int)),some (.ref a),some (.str (lnT l)),none,none,none,none] g=_
 unfold ZP
 refine Qf _ g1 st1 (Qf _ g2 (Qw e2) (Qf _ g2 st3 ?_))
 refine Qf _ g2 (iff' g2 ((tst 0).trans (by rw[Uq.mpr c0])) rfl) (Qf _ g2 (iff' g2 ((tst 1).trans (by rw[Uq.mpr c1])) rfl) (Qf _ g2 (iff' g2 ((tst 2).trans (by rw[Uq.mpr c2])) rfl) ?_))
 exact Qf _ g3 (Qw w1) (Qf _ g5 (Qw (Qg (x:=.ref A1) (y:=.ref A2) (g1:=g3) (g2:=g4) rfl w2 w3)) (Qf _ g6 w4 (QN (smOk (y:=.ref P) (g1:=g6) (g2:=g6) rfl rfl hj))))
structure Spoilt(ls:List (List Str))(i:Nat):Prop where
 lns:Lns ls
 lt:i<ls.length
 good:∀j (hj:j<i),badL (ls.headD []).length (ls[j]'(by omega))=false
 bad:badL (ls.headD []).length ls[i]=true
theorem Spoilt.told{ls:List (List Str)}{i:Nat}(h:Spoilt ls i)(g:G):∃g',QX [.str (txT ls)] g=.ok (.tup [.str "text",.int i]) g'/\Keeps [] g g':=by
 obtain⟨g1,e,k⟩:=Qgb h.lns h.lt h.good h.bad g
 exact Qfc e k
theorem QbR{m:Nat}{l:List Str}(h:allT l=false):badL m l=true:=by unfold badL;rw[h];simp
theorem Qff{m:Nat}{l:List Str}(h:l.length≠m):badL m l=true:=by unfold badL;rw[Uq.mpr h];rfl
theorem Qfg{m:Nat}{l:List Str}(h:l.length=m)(h2:allT l=true):badL m l=false:=by unfold badL;rw[h,h2,UP];rfl
theorem QbS{α:Type}{ls:List (List α)}(h:0<ls.length):ls.headD []=ls[0]:=by cases ls with|nil=>simp at h|cons a r=>rfl
structure Rws(ls:List (List Str))(m:Nat):Prop where
 n0:0<ls.length
 n4:ls.length<=4
 m0:0<m
 m4:m<=4
 each:∀l∈ls,l.length=m
 pc:∀l∈ls,∀p∈l,Pc p
 told:∀l∈ls,allT l=true
theorem TabW.rws{rows:List (List D)}{n m:Nat}(h:TabW rows n m):Rws (pcs rows) m:=by
 have e:(pcs rows).length=n:=by unfold pcs;rw[Uc,h.len]
 refine⟨by rw[e];exact h.n0,by rw[e];exact h.n4,h.m0,h.m4,λl hl=>?_,λl hl=>?_,λl hl=>?_⟩
 ·obtain⟨r,hr,rfl⟩:=UW.mp hl
  rw[Uc,h.each r hr]
 ·obtain⟨r,hr,rfl⟩:=UW.mp hl
  exact h.pc hr
 ·obtain⟨r,hr,rfl⟩:=UW.mp hl
  exact h.told hr
section
variable{ls:List (List Str)}{m:Nat}
theorem Rws.ne(h:Rws ls m){l:List Str}(hl:l∈ls):l≠[]:=λz=>by have e:=h.each l hl;have:=h.m0;rw[z]at e;simp at e;omega
theorem Rws.good(h:Rws ls m){j:Nat}(hj:j<ls.length):badL m ls[j]=false:=Qfg (h.each _ (Ut hj)) (h.told _ (Ut hj))
theorem Rws.head(h:Rws ls m):(ls.headD []).length=m:=by rw[QbS h.n0];exact h.each _ (Ut h.n0)
theorem Rws.spoil(h:Rws ls m){k:Nat}{l:List Str}{t:List (List Str)}(hk:k<=ls.length)(hl:l≠[])(hp:∀p∈l,Pc p)(hz:l.length<=6)(hb:badL (if k=0 then l.length else m) l=true)(ht:∀x∈t,x≠[]/\x.length<=6/\∀p∈x,Pc p)(hn:k+1+t.length<=6):Spoilt (ls.take k++l::t) k:=by
 have hlen:(ls.take k).length=k:=by rw[U3];omega
 have mem:∀x∈ls.take k++l::t,x≠[]/\x.length<=6/\∀p∈x,Pc p:=λx hx=>by
  rcases UB.mp hx with hx|hx
  ·have hx:=RK hx
   exact⟨h.ne hx,by rw[h.each x hx];have:=h.m4;omega,h.pc x hx⟩
  ·rcases UG.mp hx with hx|hx
   ·rw[hx];exact⟨hl,hz,hp⟩
   ·exact ht x hx
 have hd:k≠0->((ls.take k++l::t).headD []).length=m:=λh0=>by
  rw[QbS (by rw[UD,Uz];omega),Rh (by omega),Wi]
  exact h.each _ (Ut h.n0)
 refine⟨⟨by simp,λx hx=>(mem x hx).1,λx hx=>(mem x hx).2.2,by simp[hlen];omega,λx hx=>(mem x hx).2.1⟩,by simp[hlen],λj hj=>?_,?_⟩
 ·rw[hd (by omega),Rh (by omega),Wi]
  exact h.good (by omega)
 ·have e:(ls.take k++l::t)[k]'(by simp[hlen])=l:=by
   rw[Tw (by omega)]
   simp[hlen]
  rw[e]
  by_cases h0:k=0
  ·subst h0
   rw[Uf rfl]at hb
   exact hb
  ·rw[Uh h0]at hb
   rw[hd h0];exact hb
theorem Rws.set(h:Rws ls m){k:Nat}{l:List Str}(hk:k<ls.length)(hb:BadR l):Spoilt (ls.set k l) k:=by
 have e:ls.set k l=ls.take k++l::ls.drop (k+1):=by rw[Tu,Uf hk]
 rw[e]
 refine h.spoil (by omega) hb.ne hb.pc hb.len (QbR hb.bad) (λx hx=>?_) ?_
 ·have hx:=Tg hx
  exact⟨h.ne hx,by rw[h.each x hx];have:=h.m4;omega,h.pc x hx⟩
 ·rw[Td];have:=h.n4;omega
theorem Rws.set2(h:Rws ls m){k:Nat}{l l2:List Str}(hk:k+1<ls.length)(hb:BadR l)(hb2:BadR l2):Spoilt ((ls.set k l).set (k+1) l2) k:=by
 have e:(ls.set k l).set (k+1) l2=ls.take k++l::l2::ls.drop (k+2):=by
  apply Ws
  ·simp;omega
  ·intro i h1 h2
   simp only[UR]at h1
   rw[List.getElem_set,List.getElem_set]
   by_cases c1:k+1=i
   ·subst c1
    rw[Uf rfl,Tw (by rw[U3];omega)]
    simp[show k+1-min k ls.length=1 by omega]
   ·rw[Uh c1]
    by_cases c2:k=i
    ·subst c2
     rw[Uf rfl,Tw (by rw[U3];omega)]
     simp[show k-min k ls.length=0 by omega]
    ·rw[Uh c2]
     by_cases c3:i<k
     ·rw[Rh (by rw[U3];omega),Wi]
     ·rw[Tw (by rw[U3];omega)]
      have:i - (ls.take k).length=(i-k-2)+1+1:=by rw[U3];omega
      simp only[this,List.getElem_cons_succ,List.getElem_drop]
      congr 1;omega
 rw[e]
 refine h.spoil (by omega) hb.ne hb.pc hb.len (QbR hb.bad) (λx hx=>?_) ?_
 ·rcases UG.mp hx with hx|hx
  ·rw[hx];exact⟨hb2.ne,hb2.len,hb2.pc⟩
  ·have hx:=Tg hx
   exact⟨h.ne hx,by rw[h.each x hx];have:=h.m4;omega,h.pc x hx⟩
 ·rw[Uz,Td];have:=h.n4;omega
theorem nilR:BadR [ofL []]:=⟨by simp,λp hp=>by rw[Ug.mp hp];exact bads_nil.1,by simp,Yw (by simp) bads_nil.2⟩
theorem Rws.last(h:Rws ls m):Spoilt (ls++[[ofL []]]) ls.length:=by
 have:=h.spoil (k:=ls.length) (l:=[ofL []]) (t:=[]) (Ul _) nilR.ne nilR.pc nilR.len (QbR nilR.bad) (by simp) (by have:=h.n4;simp;omega)
 rwa[T9]at this
theorem Rws.ins(h:Rws ls m){k:Nat}(hk:k<=ls.length):Spoilt (insL ls k [ofL []]) k:=by
 unfold insL
 refine h.spoil hk nilR.ne nilR.pc nilR.len (QbR nilR.bad) (λx hx=>?_) ?_
 ·have hx:=Tg hx
  exact⟨h.ne hx,by rw[h.each x hx];have:=h.m4;omega,h.pc x hx⟩
 ·rw[Td];have:=h.n4;omega
theorem dash_pc:Pc (ofL [45])/\Yy (ofL [45]).cps.toList=true:=⟨⟨⟨by decide +kernel,by decide +kernel⟩,by decide +kernel,by decide +kernel⟩,by decide +kernel⟩
theorem Rws.long(h:Rws ls m){l:List Str}(hl:l∈ls):l++[ofL [45]]≠[]/\(l++[ofL [45]]).length=m+1/\(∀p∈l++[ofL [45]],Pc p)/\allT (l++[ofL [45]])=true:=by
 refine⟨by simp,by rw[UD,h.each l hl];rfl,λp hp=>?_,?_⟩
 ·rcases UB.mp hp with hp|hp
  ·exact h.pc l hl p hp
  ·rw[Ug.mp hp];exact dash_pc.1
 ·have:=h.told l hl
  unfold allT at this ⊢
  rw[List.all_append,this]
  show(([ofL [45]]:List Str).all λp=>Yy p.cps.toList)=true
  decide +kernel
theorem Rws.more(h:Rws ls m){k:Nat}(hk:k<ls.length)(h0:k≠0){t:List Str}(ht:t≠[]/\t.length<=6/\∀p∈t,Pc p):Spoilt (ls.set k (ls[k]++[ofL [45]])++[t]) k:=by
 obtain⟨q1,q2,q3,q4⟩:=h.long (Ut hk)
 have e:ls.set k (ls[k]++[ofL [45]])++[t]=ls.take k++(ls[k]++[ofL [45]])::(ls.drop (k+1)++[t]):=by rw[Tu,Uf hk,TZ];rfl
 rw[e]
 refine h.spoil (by omega) q1 q3 (by rw[q2];have:=h.m4;omega) (by rw[Uh h0];exact Qff (by omega)) (λx hx=>?_) ?_
 ·rcases UB.mp hx with hx|hx
  ·have hx:=Tg hx
   exact⟨h.ne hx,by rw[h.each x hx];have:=h.m4;omega,h.pc x hx⟩
  ·rw[Ug.mp hx];exact ht
 ·rw[UD,Td];have:=h.n4;simp;omega
theorem Rws.more0(h:Rws ls m){x:List Str}{t:List (List Str)}(hx:x≠[]/\x.length<=6/\∀p∈x,Pc p)(hxm:x.length≠m+1)(ht:∀x∈t,x≠[]/\x.length<=6/\∀p∈x,Pc p)(hz:t.length<=4):Spoilt ((ls[0]'h.n0++[ofL [45]])::x::t) 1:=by
 obtain⟨q1,q2,q3,q4⟩:=h.long (Ut h.n0)
 have mem:∀y∈(ls[0]'h.n0++[ofL [45]])::x::t,y≠[]/\y.length<=6/\∀p∈y,Pc p:=λy hy=>by
  rcases UG.mp hy with hy|hy
  ·rw[hy];exact⟨q1,by rw[q2];have:=h.m4;omega,q3⟩
  ·rcases UG.mp hy with hy|hy
   ·rw[hy];exact hx
   ·exact ht y hy
 refine⟨⟨by simp,λy hy=>(mem y hy).1,λy hy=>(mem y hy).2.2,by simp;omega,λy hy=>(mem y hy).2.1⟩,by simp,λj hj=>?_,?_⟩
 ·have:j=0:=by omega
  subst this
  exact Qfg rfl q4
 ·show badL (ls[0]'h.n0++[ofL [45]]).length x=true
  exact Qff (by rw[q2];exact hxm)
theorem Rws.more1:∀{ls:List (List Str)}{m:Nat}(h:Rws ls m)(_:1<ls.length),Spoilt (ls.set 0 (ls[0]'h.n0++[ofL [45]])) 1
 |[],_,_,hl=>by simp at hl
 |[_],_,_,hl=>by simp at hl
 |x0::x1::r,m,h,_=>by
  have mm:∀y∈x1::r,y≠[]/\y.length<=6/\∀p∈y,Pc p:=λy hy=>by
   have hy:=Uj x0 hy
   exact⟨h.ne hy,by rw[h.each y hy];have:=h.m4;omega,h.pc y hy⟩
  exact h.more0 (mm x1 (Up ..)) (by rw[h.each x1 (by simp)];omega) (λy hy=>mm y (Uj _ hy)) (by have:=h.n4;simp at this;omega)
theorem QhP:∀{ls:List (List Str)}(h:ls.length=1)(X:List Str),ls.set 0 (ls[0]'(by omega)++X)=[ls[0]'(by omega)++X]
 |[],h,_=>by simp at h
 |[_],_,_=>rfl
 |_::_::_,h,_=>by simp at h
end
theorem Qfh:lnT [ofL []]=Str.ofString "":=by decide +kernel
theorem Qge{l:List Str}(h:l≠[]):lnT l++Str.ofString " -" = lnT (l++[ofL [45]]):=by
 unfold lnT
 rw[YZ h (by simp),show Str.ofString " -" = ofL [32]++ofL [45] from by decide +kernel,<-QbQ]
 rfl
theorem QdA:∀m:Nat,0<m->m<=4->Str.ofString "- -" ++ repS (Str.ofString " -") m=lnT (List.replicate (m+2) (ofL [45]))
 |0,h,_=>absurd h (by decide)
 |1,_,_=>by decide +kernel
 |2,_,_=>by decide +kernel
 |3,_,_=>by decide +kernel
 |4,_,_=>by decide +kernel
 |m+5,_,h=>by omega
theorem Qfi{n j:Nat}{ds:List D}{y:D}{o i e:ME}{σ:S3}{g:G}(ho:o σ g=.ok (.ref n) g)(hi:i σ g=.ok (.int (j:Int)) g)(he:e σ g=.ok y g)(h:g[n]?=some (.lst ds))(hj:j<=ds.length)(hz:ds.length<=1000):YO (QaS o i e) σ g=.nx σ (g.set n (.lst (insL ds j y))):=by
 refine Qcj (d:=.non) ?_
 have h1:(0:Int)<=(j:Int)/\(j:Int)<=(ds.length:Int)/\ds.length<SZ:=⟨by omega,by omega,QbI hz⟩
 simp[QaS,ho,hi,he,Res.bind,h,h1]
theorem Qc7{α β:Type}(f:α->β)(xs:List α)(k:Nat)(y:α):(insL xs k y).map f=insL (xs.map f) k (f y):=by unfold insL;rw[UU,UO,List.map_take,List.map_drop]
theorem QhQ(ns:List Int)(a R:Nat)(k:Int)(g:G)(ga:g[a]?=some (.lst [.int k]))(hk:0<=k)(hk2:k<900000000){ls:List (List Str)}{m:Nat}(h:Rws ls m)(hR:g[R]?=some (.lst ((ls.map lnT).map .str)))(haR:a≠R):
  ∃ls' i M g',Spoilt ls' i/\QaW [.fl (ns.map .int),.ref a,.ref R] g=.ok (.tup [.ref M,.int (i:Nat)]) g'/\g'[M]?=some (.lst ((ls'.map lnT).map .str))/\g'[a]?=some (.lst [.int (k+1)])/\Keeps [a] g g':=by
 obtain⟨q,q1,q2,e1⟩:=Jf ns a k g ga hk (by omega)
 have ga1:(g.set a (.lst [.int (k+1)]))[a]?=some (.lst [.int (k+1)]):=Q8 ga
 have k1:Keeps [a] g (g.set a (.lst [.int (k+1)])):=.set a _
 generalize g.set a (.lst [.int (k+1)])=g1 at e1 ga1 k1
 have hR1:=k1.at' _ _ (by simp;omega) hR
 have n0:=h.n0
 have n4:=h.n4
 have hlm:((ls.map lnT).map D.str).length=ls.length:=by rw[Uc,Uc]
 obtain⟨kk,hkk⟩:∃kk:Nat,q % (ls.length:Int)=kk:=⟨(q % (ls.length:Int)).toNat,by have:=U7 q (show(ls.length:Int)≠0 by omega);omega⟩
 have hkl:kk<ls.length:=by have:=U2 q (show(0:Int)<ls.length by omega);omega
 have st1:mAsg (gSet 3) (Qn QV (Qa (mVar 0) (Qa (mVar 1) mNil))) [some (.fl (ns.map .int)),some (.ref a),some (.ref R),none,none,none] g=.nx [some (.fl (ns.map .int)),some (.ref a),some (.ref R),some (.int q),none,none] g1:=Qw (by rw[Qy (ds:=[.fl (ns.map .int),.ref a]) (g':=g) rfl];exact e1)
 have st2:mAsg (gSet 4) (mOp2 pMod (mVar 3) (mOp1 pLen (mVar 2))) [some (.fl (ns.map .int)),some (.ref a),some (.ref R),some (.int q),none,none] g1=.nx [some (.fl (ns.map .int)),some (.ref a),some (.ref R),some (.int q),some (.int (kk:Int)),none] g1:=by
  refine Qw (Qg (x:=.int q) (y:=.int ls.length) (g1:=g1) (g2:=g1) rfl (QI rfl (by rw[Yn hR1,hlm])) ?_)
  rw[modP (by omega),hkk]
 have st3:mAsg (gSet 5) (mOp1 Y9 (mVar 2)) [some (.fl (ns.map .int)),some (.ref a),some (.ref R),some (.int q),some (.int (kk:Int)),none] g1=.nx [some (.fl (ns.map .int)),some (.ref a),some (.ref R),some (.int q),some (.int (kk:Int)),some (.ref g1.length)] (g1++[.lst ((ls.map lnT).map .str)]):=Qw (QI rfl (by unfold Y9;dsimp only;rw[hR1]))
 have k2:Keeps [] g1 (g1++[.lst ((ls.map lnT).map .str)]):=.push _
 have dM:(g1++[.lst ((ls.map lnT).map D.str)])[g1.length]?=some (.lst ((ls.map lnT).map .str)):=Qm _
 have hal:a<g1.length:=Q0 ga1
 have hRl:R<g1.length:=Q0 hR1
 have hgl:g.length<=g1.length:=k1.len
 generalize hM:g1.length=M at st3 dM hal hRl hgl
 generalize g1++[.lst ((ls.map lnT).map D.str)]=g2 at st3 k2 dM
 have ga2:=k2.at' _ _ (by simp) ga1
 have hR2:=k2.at' _ _ (by simp) hR1
 have tst:∀(c:Int)(g:G),Qk (mOp2 pEq (mOp2 pMod (mOp2 Q7 (mVar 3) (mLit (.int 5))) (mLit (.int 3))) (mLit (.int c))) [some (.fl (ns.map .int)),some (.ref a),some (.ref R),some (.int q),some (.int (kk:Int)),some (.ref M)] g=.ok (q/5%3 == c) g:=λc g=>QL (Qg (x:=.int (q/5%3)) (g1:=g) (Qg (x:=.int (q/5)) (g1:=g) (Qg rfl rfl (divP (by decide) (by decide))) rfl (modP (by decide))) rfl (eq_int _ _ _))
 have pre:∀{R':MS}{o:Out},R' [some (.fl (ns.map .int)),some (.ref a),some (.ref R),some (.int q),some (.int (kk:Int)),some (.ref M)] g2=o->mSeq (mAsg (gSet 3) (Qn QV (Qa (mVar 0) (Qa (mVar 1) mNil)))) (mSeq (mAsg (gSet 4) (mOp2 pMod (mVar 3) (mOp1 pLen (mVar 2)))) (mSeq (mAsg (gSet 5) (mOp1 Y9 (mVar 2))) R')) [some (.fl (ns.map .int)),some (.ref a),some (.ref R),none,none,none] g=o:=λhR'=>Qf _ g1 st1 (Qf _ g1 st2 (Qf _ g2 st3 hR'))
 have kfin:∀{S:List Nat}{g':G},Keeps S g2 g'->(∀n∈S,M<=n)->Keeps [a] g g':=λ{S g'} kp hS=>⟨Uo k1.len (Uo k2.len kp.len),λn o hn hg=>by
  have h1:=k1.at' n o hn hg
  have hlt:=Q0 h1
  exact kp.at' n o (λz=>by have:=hS n z;omega) (k2.at' n o (by simp) h1)⟩
 by_cases c0:q/5%3=0
 ·-- an empty row at the end
  have w1:mOpA newL (Qa (mLit (.str "")) mNil) [some (.fl (ns.map .int)),some (.ref a),some (.ref R),some (.int q),some (.int (kk:Int)),some (.ref M)] g2=.ok (.ref g2.length) (g2++[.lst [.str ""]]):=YJ rfl (by simp)
  have y1:Keeps [] g2 (g2++[.lst [.str ""]]):=.push _
  have z1:(g2++[.lst [D.str ""]])[g2.length]?=some (.lst [.str ""]):=Qm _
  generalize g2.length=A1 at w1 z1
  generalize g2++[.lst [D.str ""]]=g3 at w1 y1 z1
  have w2:=addL (y1.at' _ _ (by simp) dM) z1 (by rw[hlm];simp;omega)
  have y2:Keeps [] g3 (g3++[.lst ((ls.map lnT).map .str++[.str ""])]):=.push _
  have z2:(g3++[.lst ((ls.map lnT).map D.str++[.str ""])])[g3.length]?=some (.lst ((ls.map lnT).map .str++[.str ""])):=Qm _
  generalize g3.length=A2 at w2 z2
  generalize g3++[.lst ((ls.map lnT).map D.str++[.str ""])]=g4 at w2 y2 z2
  have kk2:Keeps [] g2 g4:=y1.trans y2
  refine⟨ls++[[ofL []]],ls.length,A2,g4,h.last,QR rfl ?_,?_,kk2.at' _ _ (by simp) ga2,kfin kk2 (by simp)⟩
  ·show ZJ [some (.fl (ns.map .int)),some (.ref a),some (.ref R),none,none,none] g=_
   unfold ZJ
   refine pre (ZH (ift g2 ((tst 0 g2).trans (by rw[c0];rfl)) (QN (Y2 (Qg (x:=.ref M) (y:=.ref A1) (g1:=g2) (g2:=g3) rfl w1 w2) (QI rfl ?_)))))
   rw[Yn (kk2.at' _ _ (by simp) hR2),hlm]
  ·rw[z2,UU,UU,Rn,Rn,Qfh]
 by_cases c1:q/5%3=1
 ·-- one piece more
  have lk:=Qaa (h.pc _ (Ut hkl)) (by rw[h.each _ (Ut hkl)];have:=h.m4;omega)
  have hset:Zz (mVar 5) (mVar 4) (mOp2 pAdd (mOp2 pIx (mVar 5) (mVar 4)) (mLit (.str " -"))) [some (.fl (ns.map .int)),some (.ref a),some (.ref R),some (.int q),some (.int (kk:Int)),some (.ref M)] g2=.nx [some (.fl (ns.map .int)),some (.ref a),some (.ref R),some (.int q),some (.int (kk:Int)),some (.ref M)] (g2.set M (.lst (((ls.map lnT).map .str).set kk (.str (lnT (ls[kk]++[ofL [45]])))))):=by
   refine Y3 (Qg (x:=.str (lnT ls[kk])) (y:=.str " -") (g1:=g2) (g2:=g2) (Qg (x:=.ref M) (y:=.int (kk:Int)) (g1:=g2) (g2:=g2) rfl rfl ?_) rfl ?_) rfl rfl dM (by rw[hlm];exact hkl)
   ·rw[ixL dM (by rw[hlm];exact hkl),UV,UV];try rfl
   ·have hd2:(Str.ofString " -").length=2:=by decide +kernel
    rw[addS (by omega),Qge (h.ne (Ut hkl))]
  have e2:((ls.map lnT).map D.str).set kk (.str (lnT (ls[kk]++[ofL [45]])))=((ls.set kk (ls[kk]++[ofL [45]])).map lnT).map .str:=by rw[RA,RA]
  rw[e2]at hset
  have y1:Keeps [M] g2 (g2.set M (.lst (((ls.set kk (ls[kk]++[ofL [45]])).map lnT).map .str))):=.set _ _
  have z1:(g2.set M (.lst (((ls.set kk (ls[kk]++[ofL [45]])).map lnT).map D.str)))[M]?=some (.lst (((ls.set kk (ls[kk]++[ofL [45]])).map lnT).map .str)):=Q8 dM
  generalize g2.set M (.lst (((ls.set kk (ls[kk]++[ofL [45]])).map lnT).map D.str))=g3 at hset y1 z1
  have hR3:=y1.at' _ _ (by simp;omega) hR2
  have ga3:=y1.at' _ _ (by simp;omega) ga2
  by_cases c2:kk=0/\1<ls.length
  ·-- the next row is wrong
   obtain⟨rfl,hl1⟩:=c2
   have hsp:=h.more1 hl1
   refine⟨_,1,M,g3,hsp,QR rfl ?_,z1,ga3,kfin y1 (by simp)⟩
   show ZJ [some (.fl (ns.map .int)),some (.ref a),some (.ref R),none,none,none] g=_
   unfold ZJ
   refine pre (Qf _ g2 (iff' g2 ((tst 0 g2).trans (by rw[c1];rfl)) rfl) (ZH (ift g2 ((tst 1 g2).trans (by rw[c1];rfl)) (Qf _ g3 hset (ZH (ift g3 ?_ (QN (Y2 rfl rfl))))))))
   unfold ZC
   rw[QL (b:=true) (g1:=g3) (Qg (x:=.int ((0:Nat):Int)) (g1:=g3) rfl rfl rfl),Res.bind_ok,Uf rfl]
   refine QL (Qg (x:=.int ls.length) (g1:=g3) (QI rfl (by rw[Yn hR3,hlm])) rfl ?_)
   rw[Qi8,UL (by omega)]
  ·-- a row of dashes behind
   have m0:=h.m0
   have m4:=h.m4
   have hf:ZC (Qk (mOp2 pEq (mVar 4) (mLit (.int 0)))) (Qk (mOp2 pGt (mOp1 pLen (mVar 2)) (mLit (.int 1)))) [some (.fl (ns.map .int)),some (.ref a),some (.ref R),some (.int q),some (.int (kk:Int)),some (.ref M)] g3=.ok false g3:=by
    unfold ZC
    rw[QL (b:=((kk:Int) == 0)) (g1:=g3) (Qg (x:=.int (kk:Int)) (g1:=g3) rfl rfl rfl),Res.bind_ok]
    by_cases z:kk=0
    ·rw[Uf (by rw[z];rfl)]
     refine QL (Qg (x:=.int ls.length) (g1:=g3) (QI rfl (by rw[Yn hR3,hlm])) rfl ?_)
     rw[Qi8,Uw (by omega)]
    ·rw[Uh (by rw[Uq.mpr (by omega)];decide)]
   have l0:=Qaa (h.pc _ (Ut n0)) (by rw[h.each _ (Ut n0)];omega)
   have w1:mOp2 pIx (mVar 2) (mLit (.int 0)) [some (.fl (ns.map .int)),some (.ref a),some (.ref R),some (.int q),some (.int (kk:Int)),some (.ref M)] g3=.ok (.str (lnT ls[0])) g3:=Qg (x:=.ref R) (y:=.int ((0:Nat):Int)) (g1:=g3) (g2:=g3) rfl rfl (by
    rw[ixL hR3 (by rw[hlm];exact n0),UV,UV];try rfl)
   have w2:mSM Za (mOp2 pIx (mVar 2) (mLit (.int 0))) (mLit (.str " ")) [some (.fl (ns.map .int)),some (.ref a),some (.ref R),some (.int q),some (.int (kk:Int)),some (.ref M)] g3=.ok (.ref g3.length) (g3++[.lst (ls[0].map .str)]):=by
    refine smOk w1 rfl ?_
    rw[s_sp,QbM (by omega) (by decide),Qe7 (h.pc _ (Ut n0)) (h.ne (Ut n0))]
   have y2:Keeps [] g3 (g3++[.lst (ls[0].map .str)]):=.push _
   have z2:(g3++[.lst (ls[0].map D.str)])[g3.length]?=some (.lst (ls[0].map .str)):=Qm _
   generalize g3.length=A2 at w2 z2
   generalize g3++[.lst (ls[0].map D.str)]=g4 at w2 y2 z2
   have w3:mOp2 pAdd (mLit (.str "- -")) (mOp2 pMul (mLit (.str " -")) (mOp1 pLen (mSM Za (mOp2 pIx (mVar 2) (mLit (.int 0))) (mLit (.str " "))))) [some (.fl (ns.map .int)),some (.ref a),some (.ref R),some (.int q),some (.int (kk:Int)),some (.ref M)] g3=.ok (.str (lnT (List.replicate (m+2) (ofL [45])))) g4:=by
    refine Qg (x:=.str "- -") (y:=.str (repS (Str.ofString " -") m)) (g1:=g3) (g2:=g4) rfl (Qg (x:=.str " -") (y:=.int (m:Int)) (g1:=g3) (g2:=g4) rfl (QI w2 ?_) ?_) ?_
    ·rw[Yn z2,Uc,h.each _ (Ut n0)]
    ·have hl2:(Str.ofString " -").length=2:=by decide +kernel
     unfold pMul
     dsimp only
     rw[Uf ⟨⟨by omega,by omega⟩,Ye (by rw[hl2,UX];omega)⟩,UX]
    ·rw[addS ?_,QdA m m0 m4]
     have:∀m:Nat,m<=4->(repS (Str.ofString " -") m).length<=8:=λm hm=>by
      have:m=0\/m=1\/m=2\/m=3\/m=4:=by omega
      rcases this with rfl|rfl|rfl|rfl|rfl <;> decide +kernel
     have:=this m m4
     have:(Str.ofString "- -").length=3:=by decide +kernel
     omega
   have w4:mOpA newL (Qa (mOp2 pAdd (mLit (.str "- -")) (mOp2 pMul (mLit (.str " -")) (mOp1 pLen (mSM Za (mOp2 pIx (mVar 2) (mLit (.int 0))) (mLit (.str " ")))))) mNil) [some (.fl (ns.map .int)),some (.ref a),some (.ref R),some (.int q),some (.int (kk:Int)),some (.ref M)] g3=.ok (.ref g4.length) (g4++[.lst [.str (lnT (List.replicate (m+2) (ofL [45])))]]):=YJ (Qo w3 rfl) (by simp)
   have y3:Keeps [] g4 (g4++[.lst [.str (lnT (List.replicate (m+2) (ofL [45])))]]):=.push _
   have z3:(g4++[.lst [D.str (lnT (List.replicate (m+2) (ofL [45])))]])[g4.length]?=some (.lst [.str (lnT (List.replicate (m+2) (ofL [45])))]):=Qm _
   generalize g4.length=A3 at w4 z3
   generalize g4++[.lst [D.str (lnT (List.replicate (m+2) (ofL [45])))]]=g5 at w4 y3 z3
   have w5:=addL (y3.at' _ _ (by simp) (y2.at' _ _ (by simp) z1)) z3 (by simp;omega)
   have y4:Keeps [] g5 (g5++[.lst (((ls.set kk (ls[kk]++[ofL [45]])).map lnT).map .str++[.str (lnT (List.replicate (m+2) (ofL [45])))])]):=.push _
   have z4:(g5++[.lst (((ls.set kk (ls[kk]++[ofL [45]])).map lnT).map D.str++[.str (lnT (List.replicate (m+2) (ofL [45])))])])[g5.length]?=some (.lst (((ls.set kk (ls[kk]++[ofL [45]])).map lnT).map .str++[.str (lnT (List.replicate (m+2) (ofL [45])))])):=Qm _
   generalize g5.length=A4 at w5 z4
   generalize g5++[.lst (((ls.set kk (ls[kk]++[ofL [45]])).map lnT).map D.str++[.str (lnT (List.replicate (m+2) (ofL [45])))])]=g6 at w5 y4 z4
   have k36:Keeps [] g3 g6:=y2.trans (y3.trans y4)
   have td:(List.replicate (m+2) (ofL [45]))≠[]/\(List.replicate (m+2) (ofL [45])).length<=6/\∀p∈(List.replicate (m+2) (ofL [45])),Pc p:=⟨by simp[Tn],by simp;omega,λp hp=>by rw[(List.mem_replicate.mp hp).2];exact dash_pc.1⟩
   have hsp:Spoilt (ls.set kk (ls[kk]++[ofL [45]])++[List.replicate (m+2) (ofL [45])]) (max kk 1):=by
    by_cases z:kk=0
    ·have hl1:ls.length=1:=by
      have:¬1<ls.length:=λy=>c2 ⟨z,y⟩
      omega
     subst z
     have hm0:=h.more0 (x:=List.replicate (m+2) (ofL [45])) (t:=[]) td (by simp) (by simp) (by simp)
     have el:=QhP hl1 [ofL [45]]
     rw[el]
     exact hm0
    ·rw[Nat.max_eq_left (by omega)]
     exact h.more hkl z td
   refine⟨_,max kk 1,A4,g6,hsp,QR rfl ?_,?_,k36.at' _ _ (by simp) ga3,kfin (S:=[M]) (y1.trans k36.all) (by simp)⟩
   ·show ZJ [some (.fl (ns.map .int)),some (.ref a),some (.ref R),none,none,none] g=_
    unfold ZJ
    refine pre (Qf _ g2 (iff' g2 ((tst 0 g2).trans (by rw[c1];rfl)) rfl) (ZH (ift g2 ((tst 1 g2).trans (by rw[c1];rfl)) (Qf _ g3 hset (Qf _ g3 (iff' g3 hf rfl) (QN (Y2 (Qg (x:=.ref M) (y:=.ref A3) (g1:=g3) (g2:=g5) rfl w4 w5) (Qg (x:=.int (kk:Int)) (y:=.int 1) (g1:=g6) (g2:=g6) rfl rfl ?_))))))))
    unfold QfU
    dsimp only
    congr 2
    split <;> omega
   ·rw[z4,UU,UU];rfl
 ·-- an empty row between
  have w1:=Qfi (o:=mVar 5) (i:=mVar 4) (e:=mLit (.str "")) (σ:=[some (.fl (ns.map .int)),some (.ref a),some (.ref R),some (.int q),some (.int (kk:Int)),some (.ref M)]) rfl rfl rfl dM (j:=kk) (by rw[hlm];omega) (by rw[hlm];omega)
  have y1:Keeps [M] g2 (g2.set M (.lst (insL ((ls.map lnT).map .str) kk (.str "")))):=.set _ _
  have z1:(g2.set M (.lst (insL ((ls.map lnT).map D.str) kk (.str ""))))[M]?=some (.lst (insL ((ls.map lnT).map .str) kk (.str ""))):=Q8 dM
  generalize g2.set M (.lst (insL ((ls.map lnT).map D.str) kk (.str "")))=g3 at w1 y1 z1
  refine⟨_,kk,M,g3,h.ins (by omega),QR rfl ?_,?_,y1.at' _ _ (by simp;omega) ga2,kfin y1 (by simp)⟩
  ·show ZJ [some (.fl (ns.map .int)),some (.ref a),some (.ref R),none,none,none] g=_
   unfold ZJ
   exact pre (Qf _ g2 (iff' g2 ((tst 0 g2).trans (by rw[Uq.mpr c0])) rfl) (Qf _ g2 (iff' g2 ((tst 1 g2).trans (by rw[Uq.mpr c1])) rfl) (Qf _ g3 w1 (QN (Y2 rfl rfl)))))
  ·rw[z1,Qc7,Qc7,Qfh]
theorem Qfj{rows:List (List D)}{n m:Nat}(h1:rows.length=n)(h2:∀r∈rows,r.length=m)(hg:ZB rows=true):∀r∈rows,∀d∈r,entD d n m=true:=λr hr d hd=>by
 cases rows with
 |nil=>cases hr
 |cons q rest =>
  have hq:=h2 q (Up ..)
  unfold ZB at hg
  rw[UC,Ux]at hg
  have:=hg.2 r hr
  unfold ZE at this
  rw[UC,Ux]at this
  have:=this.2 d hd
  rw[h1,hq]at this;exact this
structure NoEnt(e:D)(n m:Nat):Prop where
 w:entW e
 no:entD e n m=false
theorem Qfk{rows:List (List D)}{n m:Nat}(h:TabW rows n m){k j:Nat}(hk:k<rows.length)(hj:j<m){e:D}(he:NoEnt e n m):TabW (rows.set k (rows[k].set j e)) n m/\ZB (rows.set k (rows[k].set j e))=false:=by
 have hl:(rows.set k (rows[k].set j e)).length=n:=by rw[UR,h.len]
 have each:∀r∈rows.set k (rows[k].set j e),r.length=m:=λr hr=>by
  rcases Tv hr with z|z
  ·exact h.each r z
  ·rw[z,UR,h.each _ (Ut hk)]
 refine⟨⟨h.n0,h.m0,h.n4,h.m4,hl,each,λr hr d hd=>?_⟩,?_⟩
 ·rcases Tv hr with z|z
  ·exact h.ok r z d hd
  ·rw[z]at hd
   rcases Tv hd with y|y
   ·exact h.ok _ (Ut hk) d y
   ·rw[y];exact he.w
 ·cases hg:ZB (rows.set k (rows[k].set j e)) with
  |false=>rfl
  |true =>
   have:=Qfj hl each hg (rows[k].set j e) (List.mem_set hk _) e (List.mem_set (by rw[h.each _ (Ut hk)];exact hj) _)
   rw[he.no]at this;cases this
theorem Zw{i:Nat}(h:i<=5):i∈NS:=by
 have:i=0\/i=1\/i=2\/i=3\/i=4\/i=5:=by omega
 rcases this with rfl|rfl|rfl|rfl|rfl|rfl <;> decide
theorem Qjh{i:Nat}(h:i<=3):i+1∈NS/\i+2∈NS/\i+10^9∈NS/\i+10^40∈NS:=by
 have:i=0\/i=1\/i=2\/i=3:=by omega
 rcases this with rfl|rfl|rfl|rfl <;> decide +kernel
theorem Qc8{n m i j w:Nat}(hi:i∈NS)(hj:j∈NS)(hw:w=108\/w=114)(h:m<=i\/n<=j):NoEnt (.tup [.int i,.str (ofL [w]),.int j]) n m:=by
 refine⟨.inr ⟨i,j,w,rfl,hi,hj,hw⟩,?_⟩
 have e:entD (.tup [.int i,.str (ofL [w]),.int j]) n m=(Yb (.int i) m && wayD (.str (ofL [w])) && Yb (.int j) n):=rfl
 rw[e]
 unfold Yb
 dsimp only
 rcases h with h|h
 ·rw[Uw (show ¬(0<=(i:Int)/\(i:Int)<m) by omega)];rfl
 ·rw[Uw (show ¬(0<=(j:Int)/\(j:Int)<n) by omega)];simp
theorem four{α:Type}{P:α->Prop}{a b c d:α}{i:Nat}(hi:i < [a,b,c,d].length)(ha:P a)(hb:P b)(hc:P c)(hd:P d):P [a,b,c,d][i]:=by
 have:i=0\/i=1\/i=2\/i=3:=by simp at hi;omega
 rcases this with rfl|rfl|rfl|rfl
 ·exact ha
 ·exact hb
 ·exact hc
 ·exact hd
theorem Jz{a b c:ME}{x y z:D}{σ:S3}{g g1 g2 g3:G}(ha:a σ g=.ok x g1)(hb:b σ g1=.ok y g2)(hc:c σ g2=.ok z g3):mOpA pTup (Qa a (Qa b (Qa c mNil))) σ g=.ok (.tup [x,y,z]) g3:=by
 unfold mOpA
 rw[Qo ha (Qo hb (Qo hc rfl)),Res.bind_ok]
 exact Uf (TV (QbI (show 3<=1000 by decide)))
theorem Qgf(ns:List Int)(a:Nat)(k:Int)(g:G)(ga:g[a]?=some (.lst [.int k]))(hk:0<=k)(hk2:k<900000000){rows:List (List D)}{n m N t:Nat}(h:TabW rows n m)(hT:tabOf N g t rows)(haN:a<N):
  ∃rows' N' t' g',TabW rows' n m/\ZB rows'=false/\JY [.fl (ns.map .int),.ref a,.ref t] g=.ok (.ref t') g'/\tabOf N' g' t' rows'/\g'[a]?=some (.lst [.int (k+1)])/\Keeps [a] g g':=by
 obtain⟨q,q1,q2,e1⟩:=Jf ns a k g ga hk (by omega)
 have ga1:(g.set a (.lst [.int (k+1)]))[a]?=some (.lst [.int (k+1)]):=Q8 ga
 have k1:Keeps [a] g (g.set a (.lst [.int (k+1)])):=.set a _
 generalize g.set a (.lst [.int (k+1)])=g1 at e1 ga1 k1
 have n0:=h.n0
 have n4:=h.n4
 have m0:=h.m0
 have m4:=h.m4
 have hl:=h.len
 obtain⟨t0,ds,h1,h2,h3⟩:=hT.mono k1 (λn hn=>by rw[Ug.mp hn];exact haN)
 -- the copy
 have hq:Qs g1 (.ref t)=some (true,ds):=by simp only[Qs,h1]
 obtain⟨src,s1,s2,s3⟩:=Jm hq
 obtain⟨ms,g2,c1,k2,m1,nd,m2⟩:=Qe0 (src:=src) (ds:=ds) (e:=mOp1 Y9 (mVar 0)) (g:=g1) (σc:=[]) (rows':=rows) s2 (λg1 i k=>s3 g1 i (k.seq hq)) (by omega) (λi d r hd hr g3 k3=>by
  obtain⟨l,rfl,_,_,hg⟩:=h3 i d r hd hr
  refine QI (x:=.ref l) (g1:=g3) rfl ?_
  unfold Y9;dsimp only;rw[k3.at' _ _ (by simp) hg])
 have hz:src.top<=SZ:=by rw[s2];exact Ye (by omega)
 have hit:Qt (mVar 2) [some (.fl (ns.map .int)),some (.ref a),some (.ref t),some (.int q),none,none,none,none,none,none] g1=.ok src g1:=by
  unfold Qt
  show(Res.ok (D.ref t) g1).bind _=_
  rw[Res.bind_ok];exact s1
 have c2:=Z9 (n:=1) (cap:=[]) (t:=gSet 0) (c:=QP) (e:=mOp1 Y9 (mVar 0)) (σ0:=[none]) hit hz rfl c1
 have k3:Keeps [] g2 (g2++[.lst (ms.map .ref)]):=.push _
 have dT:(g2++[.lst (ms.map D.ref)])[g2.length]?=some (.lst (ms.map .ref)):=Qm _
 have m3:∀(i n:Nat) r,ms[i]?=some n->rows[i]?=some r->g1.length<=n/\n<g2.length/\(g2++[.lst (ms.map D.ref)])[n]?=some (.lst r):=λi n r hn hr=>let ⟨x1,x2,x3⟩:=m2 i n r hn hr;⟨x1,x2,k3.at' _ _ (by simp) x3⟩
 have hg12:g1.length<=g2.length:=k2.len
 generalize hT':g2.length=T at c2 dT m3 hg12
 generalize g2++[.lst (ms.map D.ref)]=g3 at c2 k3 dT m3
 have ga3:=k3.at' _ _ (by simp) (k2.at' _ _ (by simp) ga1)
 have hml:(ms.map D.ref).length=rows.length:=by rw[Uc,m1]
 obtain⟨kk,hkk⟩:∃kk:Nat,q % (rows.length:Int)=kk:=⟨(q % (rows.length:Int)).toNat,by have:=U7 q (show(rows.length:Int)≠0 by omega);omega⟩
 have hkl:kk<rows.length:=by have:=U2 q (show(0:Int)<rows.length by omega);omega
 obtain⟨jj,hjj⟩:∃jj:Nat,q/5 % (m:Int)=jj:=⟨(q/5 % (m:Int)).toNat,by have:=U7 (q/5) (show(m:Int)≠0 by omega);omega⟩
 have hjl:jj<m:=by have:=U2 (q/5) (show(0:Int)<m by omega);omega
 have hr0:rows[0]'(by omega)∈rows:=Ut _
 obtain⟨_,_,d0⟩:=m3 0 (ms[0]'(by omega)) (rows[0]'(by omega)) (Ue (by omega)) (Ue (by omega))
 obtain⟨w1,w2,dk⟩:=m3 kk (ms[kk]'(by omega)) rows[kk] (Ue (by omega)) (Ue hkl)
 have first:∀σ:S3,σ[4]?=some (some (.ref T))->mOp1 pLen (mOp2 pIx (mVar 4) (mLit (.int 0))) σ g3=.ok (.int m) g3:=λσ hσ=>by
  refine QI (x:=.ref (ms[0]'(by omega))) (g1:=g3) (Qg (x:=.ref T) (y:=.int ((0:Nat):Int)) (g1:=g3) (g2:=g3) (by simp[hσ]) rfl ?_) ?_
  ·rw[ixL dT (by rw[hml];omega),UV];try rfl
  ·rw[Yn d0,h.each _ hr0]
 -- the entry
 obtain⟨i4,hi4⟩:∃i4:Nat,q/100%4=i4:=⟨(q/100%4).toNat,by omega⟩
 obtain⟨j4,hj4⟩:∃j4:Nat,q/25%4=j4:=⟨(q/25%4).toNat,by omega⟩
 have hi4l:i4 < [(1:Nat),2,10^9,10^40].length:=by show i4<4;omega
 obtain⟨far,hfar⟩:∃far,far=[(1:Nat),2,10^9,10^40][i4]:=⟨_,rfl⟩
 have hfar1:∀x:Nat,x<=3->x+far∈NS/\x+1<=x+far:=λx hx=>by
  obtain⟨f1,f2,f3,f4⟩:=Qjh hx
  rw[hfar]
  exact four (P:=λy=>x+y∈NS/\x+1<=x+y) hi4l ⟨f1,by omega⟩ ⟨f2,by omega⟩ ⟨f3,by omega⟩ ⟨f4,by omega⟩
 let es:List D:=[.tup [.int (m:Nat),.str (ofL [108]),.int (0:Nat)],.tup [.int (0:Nat),.str (ofL [114]),.int (n:Nat)],.tup [.int ((m-1+far:Nat):Int),.str (ofL [114]),.int (0:Nat)],.tup [.int (0:Nat),.str (ofL [108]),.int ((n-1+far:Nat):Int)]]
 have hj4l:j4<es.length:=by show j4<4;omega
 have hE:NoEnt es[j4] n m:=by
  have x1:=hfar1 (m-1) (by omega)
  have x2:=hfar1 (n-1) (by omega)
  refine four (P:=λe=>NoEnt e n m) hj4l ?_ ?_ ?_ ?_
  ·exact Qc8 (Zw (by omega)) (Zw (by omega)) (.inl rfl) (.inl (Ul _))
  ·exact Qc8 (Zw (by omega)) (Zw (by omega)) (.inr rfl) (.inr (Ul _))
  ·exact Qc8 x1.1 (Zw (by omega)) (.inr rfl) (.inl (by omega))
  ·exact Qc8 (Zw (by omega)) x2.1 (.inl rfl) (.inr (by omega))
 obtain⟨tw,tg⟩:=Qfk h hkl hjl hE
 -- the code
 have st1:mAsg (gSet 3) (Qn QV (Qa (mVar 0) (Qa (mVar 1) mNil))) [some (.fl (ns.map .int)),some (.ref a),some (.ref t),none,none,none,none,none,none,none] g=.nx [some (.fl (ns.map .int)),some (.ref a),some (.ref t),some (.int q),none,none,none,none,none,none] g1:=Qw (by rw[Qy (ds:=[.fl (ns.map .int),.ref a]) (g':=g) rfl];exact e1)
 have lenT:∀σ:S3,σ[4]?=some (some (.ref T))->mOp1 pLen (mVar 4) σ g3=.ok (.int n) g3:=λσ hσ=>QI (x:=.ref T) (g1:=g3) (by simp[hσ]) (by rw[Yn dT,hml,hl])
 have st5:mAsg (gSet 5) (mOp2 pMod (mVar 3) (mOp1 pLen (mVar 4))) [some (.fl (ns.map .int)),some (.ref a),some (.ref t),some (.int q),some (.ref T),none,none,none,none,none] g3=.nx [some (.fl (ns.map .int)),some (.ref a),some (.ref t),some (.int q),some (.ref T),some (.int (kk:Int)),none,none,none,none] g3:=by
  refine Qw (Qg (x:=.int q) (g1:=g3) rfl (lenT _ rfl) ?_)
  rw[modP (by omega),<-hl,hkk]
 have st6:mAsg (gSet 6) (mOp2 pMod (mOp2 Q7 (mVar 3) (mLit (.int 5))) (mOp1 pLen (mOp2 pIx (mVar 4) (mLit (.int 0))))) [some (.fl (ns.map .int)),some (.ref a),some (.ref t),some (.int q),some (.ref T),some (.int (kk:Int)),none,none,none,none] g3=.nx [some (.fl (ns.map .int)),some (.ref a),some (.ref t),some (.int q),some (.ref T),some (.int (kk:Int)),some (.int (jj:Int)),none,none,none] g3:=by
  refine Qw (Qg (x:=.int (q/5)) (g1:=g3) (Qg rfl rfl (divP (by decide) (by decide))) (first _ rfl) ?_)
  rw[modP (by omega),hjj]
 -- the far number
 have p9:∀(σ:S3)(g:G),mOp2 pPow (mLit (.int 10)) (mLit (.int 9)) σ g=.ok (.int ((10^9:Nat):Int)) g:=λσ g=>Qg rfl rfl (by unfold pPow;dsimp only;rw[Uf (by decide),show((10:Int) ^ (9:Int).toNat)=((10^9:Nat):Int) from by decide +kernel])
 have p40:∀(σ:S3)(g:G),mOp2 pPow (mLit (.int 10)) (mLit (.int 40)) σ g=.ok (.int ((10^40:Nat):Int)) g:=λσ g=>Qg rfl rfl (by unfold pPow;dsimp only;rw[Uf (by decide),show((10:Int) ^ (40:Int).toNat)=((10^40:Nat):Int) from by decide +kernel])
 have w3:mOpA newL (Qa (mLit (.int 1)) (Qa (mLit (.int 2)) (Qa (mOp2 pPow (mLit (.int 10)) (mLit (.int 9))) (Qa (mOp2 pPow (mLit (.int 10)) (mLit (.int 40))) mNil)))) [some (.fl (ns.map .int)),some (.ref a),some (.ref t),some (.int q),some (.ref T),some (.int (kk:Int)),some (.int (jj:Int)),some (.int m),some (.int n),none] g3=.ok (.ref g3.length) (g3++[.lst ([(1:Nat),2,10^9,10^40].map λx:Nat=>D.int (x:Int))]) :=
  YJ (Qo rfl (Qo rfl (Qo (p9 _ _) (Qo (p40 _ _) rfl)))) (by simp)
 have y3:Keeps [] g3 (g3++[.lst ([(1:Nat),2,10^9,10^40].map λx:Nat=>D.int (x:Int))]):=.push _
 have z3:(g3++[.lst ([(1:Nat),2,10^9,10^40].map λx:Nat=>D.int (x:Int))])[g3.length]?=some (.lst ([(1:Nat),2,10^9,10^40].map λx:Nat=>D.int (x:Int))):=Qm _
 generalize g3.length=A3 at w3 z3
 generalize (g3++[.lst ([(1:Nat),2,10^9,10^40].map λx:Nat=>D.int (x:Int))])=g4 at w3 y3 z3
 have st9:mAsg (gSet 9) (mOp2 pIx (mOpA newL (Qa (mLit (.int 1)) (Qa (mLit (.int 2)) (Qa (mOp2 pPow (mLit (.int 10)) (mLit (.int 9))) (Qa (mOp2 pPow (mLit (.int 10)) (mLit (.int 40))) mNil))))) (mOp2 pMod (mOp2 Q7 (mVar 3) (mLit (.int 100))) (mLit (.int 4)))) [some (.fl (ns.map .int)),some (.ref a),some (.ref t),some (.int q),some (.ref T),some (.int (kk:Int)),some (.int (jj:Int)),some (.int m),some (.int n),none] g3=.nx [some (.fl (ns.map .int)),some (.ref a),some (.ref t),some (.int q),some (.ref T),some (.int (kk:Int)),some (.int (jj:Int)),some (.int m),some (.int n),some (.int (far:Nat))] g4:=by
  refine Qw (Qg (x:=.ref A3) (y:=.int (i4:Int)) (g1:=g4) (g2:=g4) w3 (Qg (x:=.int (q/100)) (g1:=g4) (Qg rfl rfl (divP (by decide) (by decide))) rfl ?_) ?_)
  ·rw[modP (by decide),hi4]
  ·rw[ixL z3 (by rw[Uc];exact hi4l),UV,hfar]
 have dT4:=y3.at' _ _ (by simp) dT
 have dk4:=y3.at' _ _ (by simp) dk
 -- the entry's list
 have w5:mOpA newL (Qa (mOpA pTup (Qa (mVar 7) (Qa (mLit (.str "l")) (Qa (mLit (.int 0)) mNil)))) (Qa (mOpA pTup (Qa (mLit (.int 0)) (Qa (mLit (.str "r")) (Qa (mVar 8) mNil)))) (Qa (mOpA pTup (Qa (mOp2 pAdd (mOp2 pSub (mVar 7) (mLit (.int 1))) (mVar 9)) (Qa (mLit (.str "r")) (Qa (mLit (.int 0)) mNil)))) (Qa (mOpA pTup (Qa (mLit (.int 0)) (Qa (mLit (.str "l")) (Qa (mOp2 pAdd (mOp2 pSub (mVar 8) (mLit (.int 1))) (mVar 9)) mNil)))) mNil)))) [some (.fl (ns.map .int)),some (.ref a),some (.ref t),some (.int q),some (.ref T),some (.int (kk:Int)),some (.int (jj:Int)),some (.int m),some (.int n),some (.int (far:Nat))] g4=.ok (.ref g4.length) (g4++[.lst es]):=by
  have e1:((m-1+far:Nat):Int)=(m:Int) - 1+far:=by omega
  have e2:((n-1+far:Nat):Int)=(n:Int) - 1+far:=by omega
  refine YJ (Qo (Jz rfl rfl rfl) (Qo (Jz rfl rfl rfl) (Qo (Jz rfl rfl rfl) (Qo (Jz rfl rfl rfl) rfl)))) ?_ |>.trans ?_
  ·simp
  ·rw[s_l,s_r]
   show _=Res.ok (D.ref g4.length) (g4++[.lst [.tup [.int (m:Nat),.str (ofL [108]),.int (0:Nat)],.tup [.int (0:Nat),.str (ofL [114]),.int (n:Nat)],.tup [.int ((m-1+far:Nat):Int),.str (ofL [114]),.int (0:Nat)],.tup [.int (0:Nat),.str (ofL [108]),.int ((n-1+far:Nat):Int)]]])
   rw[e1,e2]
   try rfl
 have y5:Keeps [] g4 (g4++[.lst es]):=.push _
 have z5:(g4++[.lst es])[g4.length]?=some (.lst es):=Qm _
 generalize g4.length=A5 at w5 z5
 generalize g4++[.lst es]=g5 at w5 y5 z5
 have dT5:=y5.at' _ _ (by simp) dT4
 have dk5:=y5.at' _ _ (by simp) dk4
 have rl:rows[kk].length=m:=h.each _ (Ut hkl)
 have st10:Zz (mOp2 pIx (mVar 4) (mVar 5)) (mVar 6) (mOp2 pIx (mOpA newL (Qa (mOpA pTup (Qa (mVar 7) (Qa (mLit (.str "l")) (Qa (mLit (.int 0)) mNil)))) (Qa (mOpA pTup (Qa (mLit (.int 0)) (Qa (mLit (.str "r")) (Qa (mVar 8) mNil)))) (Qa (mOpA pTup (Qa (mOp2 pAdd (mOp2 pSub (mVar 7) (mLit (.int 1))) (mVar 9)) (Qa (mLit (.str "r")) (Qa (mLit (.int 0)) mNil)))) (Qa (mOpA pTup (Qa (mLit (.int 0)) (Qa (mLit (.str "l")) (Qa (mOp2 pAdd (mOp2 pSub (mVar 8) (mLit (.int 1))) (mVar 9)) mNil)))) mNil))))) (mOp2 pMod (mOp2 Q7 (mVar 3) (mLit (.int 25))) (mLit (.int 4)))) [some (.fl (ns.map .int)),some (.ref a),some (.ref t),some (.int q),some (.ref T),some (.int (kk:Int)),some (.int (jj:Int)),some (.int m),some (.int n),some (.int (far:Nat))] g4
   = .nx [some (.fl (ns.map .int)),some (.ref a),some (.ref t),some (.int q),some (.ref T),some (.int (kk:Int)),some (.int (jj:Int)),some (.int m),some (.int n),some (.int (far:Nat))] (g5.set (ms[kk]'(by omega)) (.lst (rows[kk].set jj es[j4]))):=by
  refine Y3 (Qg (x:=.ref A5) (y:=.int (j4:Int)) (g1:=g5) (g2:=g5) w5 (Qg (x:=.int (q/25)) (g1:=g5) (Qg rfl rfl (divP (by decide) (by decide))) rfl ?_) ?_) (Qg (x:=.ref T) (y:=.int (kk:Int)) (g1:=g5) (g2:=g5) rfl rfl ?_) rfl dk5 (by rw[rl];exact hjl)
  ·rw[modP (by decide),hj4]
  ·rw[ixL z5 hj4l]
  ·rw[ixL dT5 (by rw[hml];exact hkl),UV];try rfl
 have ml':kk<ms.length:=by omega
 have hTn:T≠ms[kk]'ml':=by omega
 have kS:Keeps [ms[kk]'ml'] g5 (g5.set (ms[kk]'ml') (.lst (rows[kk].set jj es[j4]))):=.set _ _
 have dS:(g5.set (ms[kk]'ml') (.lst (rows[kk].set jj es[j4])))[ms[kk]'ml']?=some (.lst (rows[kk].set jj es[j4])):=Q8 dk5
 generalize g5.set (ms[kk]'ml') (.lst (rows[kk].set jj es[j4]))=g6 at st10 kS dS
 have haT:a<g1.length:=Q0 ga1
 refine⟨rows.set kk (rows[kk].set jj es[j4]),g1.length,T,g6,tw,tg,QR rfl ?_,?_,?_,?_⟩
 ·show JX [some (.fl (ns.map .int)),some (.ref a),some (.ref t),none,none,none,none,none,none,none] g=_
  unfold JX
  refine Qf _ g1 st1 (Qf _ g3 (Qw c2) (Qf _ g3 st5 (Qf _ g3 st6 (Qf [some (.fl (ns.map .int)),some (.ref a),some (.ref t),some (.int q),some (.ref T),some (.int (kk:Int)),some (.int (jj:Int)),some (.int m),none,none] g3 (Qw (first _ rfl)) (Qf [some (.fl (ns.map .int)),some (.ref a),some (.ref t),some (.int q),some (.ref T),some (.int (kk:Int)),some (.int (jj:Int)),some (.int m),some (.int n),none] g3 (Qw (lenT _ rfl)) (Qf _ g4 st9 (Qf _ g6 st10 (QN rfl))))))))
 ·refine⟨by omega,ms.map .ref,kS.at' _ _ (by simp;omega) dT5,by rw[hml,UR],λi x r hx hr=>?_⟩
  rw[UA]at hx
  cases hi:ms[i]? with
  |none=>rw[hi]at hx;cases hx
  |some u =>
   rw[hi]at hx
   cases hx
   have hil:i<ms.length:=(Ui.mp hi).1
   obtain⟨x1,x2,x3⟩:=m3 i u (rows[i]'(by omega)) hi (Ue (by omega))
   refine⟨u,rfl,x1,by omega,?_⟩
   by_cases c:i=kk
   ·subst c
    have hu:ms[i]'ml'=u:=by rw[Ue ml']at hi;exact Option.some.inj hi
    rw[U0 (by omega)]at hr
    cases hr
    rw[<-hu];exact dS
   ·rw[Uy (λz=>c z.symm),Ue (by omega)]at hr
    cases hr
    refine kS.at' _ _ (λz=>c ?_) (y5.at' _ _ (by simp) (y3.at' _ _ (by simp) x3))
    have hu:ms[i]=u:=by rw[Ue hil]at hi;exact Option.some.inj hi
    have:=Ug.mp z
    rw[<-hu]at this
    exact(Wq nd).mp this
 ·exact kS.at' _ _ (by simp;omega) (y5.at' _ _ (by simp) (y3.at' _ _ (by simp) ga3))
 ·refine⟨Uo k1.len (Uo k2.len (Uo k3.len (Uo y3.len (Uo y5.len kS.len)))),λn o hn hg=>?_⟩
  have h1:=k1.at' n o hn hg
  have hlt:=Q0 h1
  exact kS.at' n o (by simp;omega) (y5.at' _ _ (by simp) (y3.at' _ _ (by simp) (k3.at' _ _ (by simp) (k2.at' _ _ (by simp) h1))))
theorem entOk.w{d:D}{n m:Nat}(h:entOk d n m)(hn:n<=4)(hm:m<=4):entW d:=by
 rcases h with rfl|⟨i,j,w,rfl,h1,h2,h3,h4,h5⟩
 ·exact .inl rfl
 ·have ei:((i.toNat:Nat):Int)=i:=by omega
  have ej:((j.toNat:Nat):Int)=j:=by omega
  rcases h5 with rfl|rfl
  ·exact .inr ⟨i.toNat,j.toNat,108,by rw[ei,ej];rfl,Zw (by omega),Zw (by omega),.inl rfl⟩
  ·exact .inr ⟨i.toNat,j.toNat,114,by rw[ei,ej];rfl,Zw (by omega),Zw (by omega),.inr rfl⟩
section
variable{rows:List (List D)}{n m:Nat}
theorem TabW.read(h:TabW rows n m)(g:G):∃M g',Keeps [] g g'/\Qq [.str (tabT rows)] g=(if ZB rows=true then .ok (.ref M) g' else .raise (1,none) g')/\(ZB rows=true->g'[M]?=some (QaZ rows)):=by
 have hr:=h.rws
 obtain⟨M,g',k,e,q⟩:=Qe8 h.lns (λj hj=>by rw[hr.head];exact hr.good hj) (λl hl d hd=>by
  obtain⟨r,hr,rfl⟩:=UW.mp hl
  rw[h.ent hr]at hd
  exact(h.ok r hr d hd).is.2.2.2) g
 rw[h.ents]at e q
 exact⟨M,g',k,e,q⟩
theorem TabW.told_mach(h:TabW rows n m)(hg:ZB rows=false)(g:G):∃g',QX [.str (tabT rows)] g=.ok (.tup [.str "machine",.int 0]) g'/\Keeps [] g g':=by
 obtain⟨M,g1,k,e,_⟩:=h.read g
 rw[hg,Uh Ud]at e
 exact L3.told_mach e k
theorem TabW.told_read(h:TabW rows n m)(hg:ZB rows=true)(g:G):∃M g',QX [.str (tabT rows)] g=.ok (.tup [.str "read",.ref M]) g'/\Keeps [] g g'/\g'[M]?=some (QaZ rows):=by
 obtain⟨M,g1,k,e,q⟩:=h.read g
 rw[Uf hg]at e
 exact⟨M,g1,L3.told_read e,k,q hg⟩
theorem TabW.nl(h:TabW rows n m):tabT rows++Str.ofString "\n" = txT (pcs rows++[[ofL []]]):=by
 unfold tabT txT
 rw[UU,YZ (λz=>h.lns.ne (Re.mp z)) (by simp),s_nl]
 show _=_++lnT [ofL []]
 rw[show lnT [ofL []]=ofL [] from rfl,Qfd]
end
theorem empty_spoilt:Spoilt [[ofL []]] 0:=⟨⟨by simp,λl hl=>by rw[Ug.mp hl];simp,λl hl p hp=>by rw[Ug.mp hl]at hp;rw[Ug.mp hp];exact bads_nil.1,by simp,λl hl=>by rw[Ug.mp hl];simp⟩,by simp,λj hj=>by omega,QbR nilR.bad⟩
theorem Qae{E X:ME}{w s:Str}{i:Int}{σ:S3}{g g0:G}(hE:E σ g=.ok (.str s) g0)(ht:∀g,∃g',QX [.str s] g=.ok (.tup [.str w,.int i]) g'/\Keeps [] g g')(hX:∀g',Keeps [] g0 g'->X σ g'=.ok (.int i) g'):
  ∃g',Zl (Qk (Qn (QW 6) (Qa (Qn QX (Qa E mNil)) (Qa (mOpA pTup (Qa (mLit (.str w)) (Qa X mNil))) mNil)))) σ g=.ok false g'/\Keeps [] g0 g':=by
 obtain⟨g1,e1,k1⟩:=ht g0
 obtain⟨g2,e2,k2⟩:=QhJ w i g1
 refine⟨g2,Qe1 (QL ?_),k1.trans k2⟩
 rw[Qy (ds:=[.tup [.str w,.int i],.tup [.str w,.int i]]) (g':=g1) (Qo (by rw[Qy (Qo hE rfl)];exact e1) (Qo (Y2 rfl (hX g1 k1)) rfl))]
 exact e2
theorem Qji{ls:List (List Str)}{n:Nat}{g:G}(h:Lns ls)(hg:g[n]?=some (.lst ((ls.map lnT).map .str))):YF (.str (Str.ofString "\n")) (.ref n) g=.ok (.str (txT ls)) g:=by
 rw[s_nl]
 exact Qe4 rfl hg (by rw[Uc];have:=h.nl;have:=h.tx_len.1;omega)
theorem Qjj(ns:List Int)(a:Nat)(k:Int)(g:G)(ga:g[a]?=some (.lst [.int k]))(hk:0<=k)(hk2:k<800000000):
  ∃g' k',Qch [.fl (ns.map .int),.ref a] g=.ok (.bl true) g'/\g'[a]?=some (.lst [.int k'])/\0<=k'/\k'<=k+100/\Keeps [a] g g':=by
 obtain⟨q,q1,q2,e1⟩:=Jf ns a k g ga hk (by omega)
 have ga1:(g.set a (.lst [.int (k+1)]))[a]?=some (.lst [.int (k+1)]):=Q8 ga
 have k1:Keeps [a] g (g.set a (.lst [.int (k+1)])):=.set a _
 generalize g.set a (.lst [.int (k+1)])=g1 at e1 ga1 k1
 obtain⟨n,hn⟩:∃n:Nat,1+q%4=n:=⟨(1+q%4).toNat,by omega⟩
 obtain⟨m,hm⟩:∃m:Nat,1+q/4%4=m:=⟨(1+q/4%4).toNat,by omega⟩
 have n0:0<n:=by omega
 have m0:0<m:=by omega
 have n4:n<=4:=by omega
 have m4:m<=4:=by omega
 obtain⟨rows,g2,e2,k2,ga2,hT,h1,h2,h3⟩:=Qf8 ns a (k+1) n m g1 n0 m0 (by omega) (by omega) ga1 (by omega) (by omega)
 have h:TabW rows n m:=⟨n0,m0,n4,m4,h1,h2,λr hr d hd=>(h3 r hr d hd).w n4 m4⟩
 have hgood:=entOk.good n0 m0 h1 h2 h3
 have haN:a<g1.length:=Q0 ga1
 have hnm:n*m<=16:=Nat.mul_le_mul n4 m4
 have hb1:(0:Int)<=(n:Int)*m:=by exact_mod_cast BB (n*m)
 have hb2:(n:Int)*m<=16:=by exact_mod_cast hnm
 generalize hK:k+1+(n:Int)*m=K at ga2
 have hK0:0<=K:=by omega
 have hK1:K<850000000:=by omega
 generalize htt:g1.length=t at e2 hT haN
 obtain⟨g3,e3,k3⟩:=QbP h hT
 have hT3:=hT.mono k3 (by simp)
 have ga3:=k3.at' _ _ (by simp) ga2
 have hR:=h.rws
 have hL:=h.lns
 have hln:(pcs rows).length=n:=by unfold pcs;rw[Uc,h1]
 -- the rows
 have e4:mSM Za (mVar 4) (mLit (.str (Str.ofString "\n"))) [some (.fl (ns.map .int)),some (.ref a),some (.int q),some (.ref t),some (.str (tabT rows)),none,none,none,none,none,none] g3=.ok (.ref g3.length) (g3++[.lst (((pcs rows).map lnT).map .str)]):=by
  refine smOk rfl rfl ?_
  rw[s_nl,QbM (by have:=hL.tx_len.2;unfold tabT;omega) (by decide)]
  unfold tabT
  rw[hL.cut]
 have k4:Keeps [] g3 (g3++[.lst (((pcs rows).map lnT).map .str)]):=.push _
 have dR:(g3++[.lst (((pcs rows).map lnT).map D.str)])[g3.length]?=some (.lst (((pcs rows).map lnT).map .str)):=Qm _
 have hRa:a<g3.length:=Q0 ga3
 generalize g3.length=R at e4 dR hRa
 generalize g3++[.lst (((pcs rows).map lnT).map D.str)]=g4 at e4 k4 dR
 have ga4:=k4.at' _ _ (by simp) ga3
 have hT4:=hT3.mono k4 (by simp)
 generalize hls:pcs rows=ls at *
 have hlm:((ls.map lnT).map D.str).length=n:=by rw[Uc,Uc,hln]
 -- k
 obtain⟨p,p1,p2,e5⟩:=Jf ns a K g4 ga4 hK0 (by omega)
 have ga5:(g4.set a (.lst [.int (K+1)]))[a]?=some (.lst [.int (K+1)]):=Q8 ga4
 have k5:Keeps [a] g4 (g4.set a (.lst [.int (K+1)])):=.set a _
 generalize g4.set a (.lst [.int (K+1)])=g5 at e5 ga5 k5
 have dR5:=k5.at' _ _ (by simp;omega) dR
 have hT5:=hT4.mono k5 (λx hx=>by rw[Ug.mp hx];exact haN)
 obtain⟨kk,hkk⟩:∃kk:Nat,p % (n:Int)=kk:=⟨(p % (n:Int)).toNat,by have:=U7 p (show(n:Int)≠0 by omega);omega⟩
 have hkl:kk<ls.length:=by have:=U2 p (show(0:Int)<n by omega);omega
 have s5:mAsg (gSet 6) (mOp2 pMod (Qn QV (Qa (mVar 0) (Qa (mVar 1) mNil))) (mOp1 pLen (mVar 5))) [some (.fl (ns.map .int)),some (.ref a),some (.int q),some (.ref t),some (.str (tabT rows)),some (.ref R),none,none,none,none,none] g4=.nx [some (.fl (ns.map .int)),some (.ref a),some (.int q),some (.ref t),some (.str (tabT rows)),some (.ref R),some (.int (kk:Int)),none,none,none,none] g5:=by
  refine Qw (Qg (x:=.int p) (y:=.int (n:Int)) (g1:=g5) (g2:=g5) (by rw[Qy (ds:=[.fl (ns.map .int),.ref a]) (g':=g4) rfl];exact e5) (QI rfl (by rw[Yn dR5,hlm])) ?_)
  rw[modP (by omega),hkk]
 -- the copy
 have s6:mAsg (gSet 7) (mOp1 Y9 (mVar 5)) [some (.fl (ns.map .int)),some (.ref a),some (.int q),some (.ref t),some (.str (tabT rows)),some (.ref R),some (.int (kk:Int)),none,none,none,none] g5=.nx [some (.fl (ns.map .int)),some (.ref a),some (.int q),some (.ref t),some (.str (tabT rows)),some (.ref R),some (.int (kk:Int)),some (.ref g5.length),none,none,none] (g5++[.lst ((ls.map lnT).map .str)]):=Qw (QI rfl (by unfold Y9;dsimp only;rw[dR5]))
 have k6:Keeps [] g5 (g5++[.lst ((ls.map lnT).map .str)]):=.push _
 have dS:(g5++[.lst ((ls.map lnT).map D.str)])[g5.length]?=some (.lst ((ls.map lnT).map .str)):=Qm _
 have hSR:R<g5.length:=Q0 dR5
 have hSt:t<g5.length:=by obtain⟨_,ds,y1,_⟩:=hT5;exact Q0 y1
 have hT6:=hT5.mono k6 (by simp)
 have tlow:∀{g':G},Keeps [a,g5.length] (g5++[.lst ((ls.map lnT).map .str)]) g'->tabOf t g' t rows:=λ{g'} kp=>by
  obtain⟨x0,ds,x1,x2,x3⟩:=hT5
  refine⟨x0,ds,kp.at' _ _ (by simp;omega) (k6.at' _ _ (by simp) x1),x2,λi x r hx hr=>?_⟩
  obtain⟨u,y1,y2,y3,y4⟩:=x3 i x r hx hr
  exact⟨u,y1,y2,y3,kp.at' _ _ (by have:=Q0 y4;simp;omega) (k6.at' _ _ (by simp) y4)⟩
 have klow:∀{g':G},Keeps [a,g5.length] (g5++[.lst ((ls.map lnT).map .str)]) g'->Keeps [a] g g':=λ{g'} kp=>by
  have kk5:Keeps [a] g g5:=k1.trans (k2.trans (k3.all.trans (k4.all.trans k5)))
  refine⟨Uo kk5.len (Uo k6.len kp.len),λx o hx hg=>?_⟩
  have y:=kk5.at' x o hx hg
  exact kp.at' x o (by have:=Q0 y;simp at hx;simp;omega) (k6.at' x o (by simp) y)
 have ga6:=k6.at' _ _ (by simp) ga5
 have dR6:=k6.at' _ _ (by simp) dR5
 have haS:a<g5.length:=Q0 ga5
 generalize g5.length=S at s6 dS hSR hSt tlow klow haS
 generalize g5++[.lst ((ls.map lnT).map D.str)]=g6 at s6 k6 dS hT6 tlow klow ga6 dR6
 -- the first wrong row
 have hkm:ls[kk]∈ls:=Ut hkl
 obtain⟨l1,g7,hb1',e7,ga7,k7⟩:=Qax ns a (K+1) g6 ga6 (by omega) (by omega) (hR.ne hkm) (hR.pc _ hkm) (by rw[hR.each _ hkm];exact m4)
 have dS7:=k7.at' _ _ (by simp;omega) dS
 have dR7:=k7.at' _ _ (by simp;omega) dR6
 have s7:Zz (mVar 7) (mVar 6) (Qn Zd (Qa (mVar 0) (Qa (mVar 1) (Qa (mOp2 pIx (mVar 5) (mVar 6)) mNil)))) [some (.fl (ns.map .int)),some (.ref a),some (.int q),some (.ref t),some (.str (tabT rows)),some (.ref R),some (.int (kk:Int)),some (.ref S),none,none,none] g6=.nx [some (.fl (ns.map .int)),some (.ref a),some (.int q),some (.ref t),some (.str (tabT rows)),some (.ref R),some (.int (kk:Int)),some (.ref S),none,none,none] (g7.set S (.lst (((ls.set kk l1).map lnT).map .str))):=by
  refine(Y3 (y:=.str (lnT l1)) (g1:=g7) ?_ rfl rfl dS7 (by rw[hlm];omega)).trans ?_
  ·rw[Qy (ds:=[.fl (ns.map .int),.ref a,.str (lnT ls[kk])]) (g':=g6) (Qo rfl (Qo rfl (Qo (Qg (x:=.ref R) (y:=.int (kk:Int)) (g1:=g6) (g2:=g6) rfl rfl (by rw[ixL dR6 (by rw[hlm];omega),UV,UV];try rfl)) rfl)))]
   exact e7
  ·rw[RA,RA];try rfl
 have k8:Keeps [S] g7 (g7.set S (.lst (((ls.set kk l1).map lnT).map .str))):=.set _ _
 have dS8:(g7.set S (.lst (((ls.set kk l1).map lnT).map D.str)))[S]?=some (.lst (((ls.set kk l1).map lnT).map .str)):=Q8 dS7
 generalize g7.set S (.lst (((ls.set kk l1).map lnT).map D.str))=g8 at s7 k8 dS8
 have ga8:=k8.at' _ _ (by simp;omega) ga7
 have dR8:=k8.at' _ _ (by simp;omega) dR7
 have k68:Keeps [a,S] g6 g8:=(k7.mono (by simp)).trans (k8.mono (by simp))
 -- the second one,perhaps
 have step8:∃ls2 g9 K9,Spoilt ls2 kk/\g9[S]?=some (.lst ((ls2.map lnT).map .str))/\g9[a]?=some (.lst [.int K9])/\0<=K9/\K9<=K+3/\Keeps [a,S] g8 g9 /\
   mIf (ZC (Qk (mOp2 pEq (mOp2 pMod (mOp2 Q7 (mVar 2) (mLit (.int 16))) (mLit (.int 2))) (mLit (.int 0)))) (Qk (mOp2 pLt (mOp2 pAdd (mVar 6) (mLit (.int 1))) (mOp1 pLen (mVar 5))))) (Zz (mVar 7) (mOp2 pAdd (mVar 6) (mLit (.int 1))) (Qn Zd (Qa (mVar 0) (Qa (mVar 1) (Qa (mOp2 pIx (mVar 5) (mOp2 pAdd (mVar 6) (mLit (.int 1)))) mNil))))) QO [some (.fl (ns.map .int)),some (.ref a),some (.int q),some (.ref t),some (.str (tabT rows)),some (.ref R),some (.int (kk:Int)),some (.ref S),none,none,none] g8
    = .nx [some (.fl (ns.map .int)),some (.ref a),some (.int q),some (.ref t),some (.str (tabT rows)),some (.ref R),some (.int (kk:Int)),some (.ref S),none,none,none] g9:=by
  have t1:Qk (mOp2 pEq (mOp2 pMod (mOp2 Q7 (mVar 2) (mLit (.int 16))) (mLit (.int 2))) (mLit (.int 0))) [some (.fl (ns.map .int)),some (.ref a),some (.int q),some (.ref t),some (.str (tabT rows)),some (.ref R),some (.int (kk:Int)),some (.ref S),none,none,none] g8=.ok (q/16%2 == 0) g8:=QL (Qg (x:=.int (q/16%2)) (g1:=g8) (Qg (x:=.int (q/16)) (g1:=g8) (Qg rfl rfl (divP (by decide) (by decide))) rfl (modP (by decide))) rfl (eq_int _ _ _))
  have t2:Qk (mOp2 pLt (mOp2 pAdd (mVar 6) (mLit (.int 1))) (mOp1 pLen (mVar 5))) [some (.fl (ns.map .int)),some (.ref a),some (.int q),some (.ref t),some (.str (tabT rows)),some (.ref R),some (.int (kk:Int)),some (.ref S),none,none,none] g8=.ok (decide ((kk:Int)+1<n)) g8:=QL (Qg (x:=.int ((kk:Int)+1)) (y:=.int (n:Int)) (g1:=g8) (g2:=g8) rfl (QI rfl (by rw[Yn dR8,hlm])) rfl)
  by_cases c1:q/16%2=0
  ·by_cases c2:kk+1<n
   ·have hk1l:kk+1<ls.length:=by omega
    have hk1m:ls[kk+1]∈ls:=Ut hk1l
    obtain⟨l2,g9,hb2',e9,ga9,k9⟩:=Qax ns a (K+1+1) g8 ga8 (by omega) (by omega) (hR.ne hk1m) (hR.pc _ hk1m) (by rw[hR.each _ hk1m];exact m4)
    have dS9:=k9.at' _ _ (by simp;omega) dS8
    refine⟨(ls.set kk l1).set (kk+1) l2,g9.set S (.lst ((((ls.set kk l1).set (kk+1) l2).map lnT).map .str)),K+1+1+1,hR.set2 hk1l hb1' hb2',Q8 dS9,?_,by omega,by omega,(k9.mono (by simp)).trans ((Keeps.set S _).mono (by simp)),?_⟩
    ·rw[Uy (by omega)];exact ga9
    ·refine ift g8 ?_ ?_
     ·unfold ZC
      rw[t1,Res.bind_ok,Uf (by rw[c1];rfl),t2,UL (by omega)]
     ·refine(Y3 (y:=.str (lnT l2)) (g1:=g9) (j:=kk+1) ?_ rfl rfl dS9 (by simp;omega)).trans ?_
      ·rw[Qy (ds:=[.fl (ns.map .int),.ref a,.str (lnT ls[kk+1])]) (g':=g8) (Qo rfl (Qo rfl (Qo (Qg (x:=.ref R) (y:=.int ((kk+1:Nat):Int)) (g1:=g8) (g2:=g8) rfl rfl (by rw[ixL dR8 (by rw[hlm];omega),UV,UV];try rfl)) rfl)))]
       exact e9
      ·simp only[RA]
   ·refine⟨ls.set kk l1,g8,K+1+1,hR.set hkl hb1',dS8,ga8,by omega,by omega,.refl,iff' g8 ?_ rfl⟩
    unfold ZC
    rw[t1,Res.bind_ok,Uf (by rw[c1];rfl),t2,Uw (by omega)]
  ·refine⟨ls.set kk l1,g8,K+1+1,hR.set hkl hb1',dS8,ga8,by omega,by omega,.refl,iff' g8 ?_ rfl⟩
   unfold ZC
   rw[t1,Res.bind_ok,Uh (by rw[Uq.mpr c1];decide)]
 obtain⟨ls2,g9,K9,hsp,dS9,ga9,hK9,hK9',k89,s8⟩:=step8
 have k69:=k68.trans k89
 have dR9:=k69.at' _ _ (by simp;omega) dR6
 -- it is told
 obtain⟨g10,s9,k910⟩:=Qae (E:=mSM YF (mLit (.str (Str.ofString "\n"))) (mVar 7)) (X:=mVar 6) (σ:=[some (.fl (ns.map .int)),some (.ref a),some (.int q),some (.ref t),some (.str (tabT rows)),some (.ref R),some (.int (kk:Int)),some (.ref S),none,none,none]) (smOk (y:=.ref S) (g1:=g9) (g2:=g9) rfl rfl (Qji hsp.lns dS9)) hsp.told (λg' _=>rfl)
 -- more
 have ga10:=k910.at' _ _ (by simp) ga9
 have dR10:=k910.at' _ _ (by simp) dR9
 obtain⟨ls3,i3,M3,g11,hsp3,e11,dM,ga11,k11⟩:=QhQ ns a R K9 g10 ga10 hK9 (by omega) hR dR10 (by omega)
 obtain⟨g12,s11,k12⟩:=Qae (E:=mSM YF (mLit (.str (Str.ofString "\n"))) (mVar 7)) (X:=mVar 8) (σ:=[some (.fl (ns.map .int)),some (.ref a),some (.int q),some (.ref t),some (.str (tabT rows)),some (.ref R),some (.int (kk:Int)),some (.ref M3),some (.int (i3:Nat)),none,none]) (smOk (y:=.ref M3) (g1:=g11) (g2:=g11) rfl rfl (Qji hsp3.lns dM)) hsp3.told (λg' _=>rfl)
 have ga12:=k12.at' _ _ (by simp) ga11
 have k612:Keeps [a,S] g6 g12:=k69.trans (k910.all.trans ((k11.mono (by simp)).trans k12.all))
 -- the wrong table
 obtain⟨rows',N',t',g13,hw,hgw,e13,hT',ga13,k13⟩:=Qgf ns a (K9+1) g12 ga12 (by omega) (by omega) h (tlow k612) haN
 obtain⟨g14,e14,k14⟩:=QbP hw hT'
 have k614:Keeps [a,S] g6 g14:=k612.trans ((k13.mono (by simp)).trans k14.all)
 obtain⟨g15,s13,k15⟩:=Qae (E:=mVar 9) (X:=mLit (.int 0)) (σ:=[some (.fl (ns.map .int)),some (.ref a),some (.int q),some (.ref t),some (.str (tabT rows)),some (.ref R),some (.int (kk:Int)),some (.ref M3),some (.int (i3:Nat)),some (.str (tabT rows')),none]) (g:=g14) (g0:=g14) rfl (hw.told_mach hgw) (λg' _=>rfl)
 have k615:=k614.trans k15.all
 have dR15:=k615.at' _ _ (by simp;omega) dR6
 have hlw:(pcs rows').length=n:=by unfold pcs;rw[Uc,hw.len]
 have hsw:=hw.rws.last
 rw[hlw]at hsw
 obtain⟨g16,s14,k16⟩:=Qae (E:=mOp2 pAdd (mVar 9) (mLit (.str (Str.ofString "\n")))) (X:=mOp1 pLen (mVar 5)) (w:=Str.ofString "text") (i:=(n:Nat)) (σ:=[some (.fl (ns.map .int)),some (.ref a),some (.int q),some (.ref t),some (.str (tabT rows)),some (.ref R),some (.int (kk:Int)),some (.ref M3),some (.int (i3:Nat)),some (.str (tabT rows')),none]) (g:=g15) (g0:=g15) (Qg (x:=.str (tabT rows')) (y:=.str (Str.ofString "\n")) (g1:=g15) (g2:=g15) rfl rfl (by
   have hl1:(Str.ofString "\n").length=1:=by decide +kernel
   have hl2:(tabT rows').length<=3642:=hw.lns.tx_len.2
   rw[addS (by omega),hw.nl])) hsw.told (λg' kg=>QI rfl (by rw[Yn (kg.at' _ _ (by simp) dR15),hlm]))
 obtain⟨g17,s15,k17⟩:=Qae (E:=mLit (.str "")) (X:=mLit (.int 0)) (w:=Str.ofString "text") (i:=0) (σ:=[some (.fl (ns.map .int)),some (.ref a),some (.int q),some (.ref t),some (.str (tabT rows)),some (.ref R),some (.int (kk:Int)),some (.ref M3),some (.int (i3:Nat)),some (.str (tabT rows')),none]) (s:=Str.ofString "") (g:=g16) (g0:=g16) rfl (λg=>by
   have:=empty_spoilt.told g
   rw[show txT [[ofL []]]=Str.ofString "" from by decide +kernel]at this
   exact this) (λg' _=>rfl)
 -- the right one
 obtain⟨M,g18,e18,k18,hM⟩:=h.told_read hgood g17
 have k618:Keeps [a,S] g6 g18:=k615.trans (k16.all.trans (k17.all.trans k18.all))
 obtain⟨g19,e19,k19⟩:=Qfb (v:=3) (σ:=[some (.fl (ns.map .int)),some (.ref a),some (.int q),some (.ref t),some (.str (tabT rows)),some (.ref R),some (.int (kk:Int)),some (.ref M3),some (.int (i3:Nat)),some (.str (tabT rows')),some (.tup [.str "read",.ref M])]) (tlow k618) rfl (by omega)
 obtain⟨g20,e20,k20⟩:=Qje h g19
 have kfin:Keeps [a,S] g6 g20:=k618.trans (k19.all.trans k20.all)
 have gafin:g20[a]?=some (.lst [.int (K9+1+1)]):=k20.at' _ _ (by simp) (k19.at' _ _ (by simp) (k18.at' _ _ (by simp) (k17.at' _ _ (by simp) (k16.at' _ _ (by simp) (k15.at' _ _ (by simp) (k14.at' _ _ (by simp) ga13))))))
 refine⟨g20,K9+1+1,QR rfl ?_,gafin,by omega,by omega,klow kfin⟩
 show Qcg [some (.fl (ns.map .int)),some (.ref a),none,none,none,none,none,none,none,none,none] g=_
 unfold Qcg
 refine Qf [some (.fl (ns.map .int)),some (.ref a),some (.int q),none,none,none,none,none,none,none,none] g1 (Qw (by rw[Qy (ds:=[.fl (ns.map .int),.ref a]) (g':=g) rfl];exact e1)) ?_
 refine Qf [some (.fl (ns.map .int)),some (.ref a),some (.int q),some (.ref t),none,none,none,none,none,none,none] g2 (Qw ?_) ?_
 ·rw[Qy (ds:=[.fl (ns.map .int),.ref a,.int n,.int m]) (g':=g1) (Qo rfl (Qo rfl (Qo (Qg (x:=.int 1) (y:=.int (q%4)) (g1:=g1) (g2:=g1) rfl (Qg rfl rfl (modP (by decide))) (by rw[QgE,hn])) (Qo (Qg (x:=.int 1) (y:=.int (q/4%4)) (g1:=g1) (g2:=g1) rfl (Qg (x:=.int (q/4)) (g1:=g1) (Qg rfl rfl (divP (by decide) (by decide))) rfl (modP (by decide))) (by rw[QgE,hm])) rfl))))]
  exact e2
 refine Qf [some (.fl (ns.map .int)),some (.ref a),some (.int q),some (.ref t),some (.str (tabT rows)),none,none,none,none,none,none] g3 (Qw (by rw[Qy (ds:=[.ref t]) (g':=g2) rfl];exact e3)) ?_
 refine Qf _ g4 (Qw e4) (Qf _ g5 s5 (Qf _ g6 s6 (Qf _ g8 s7 (Qf _ g9 s8 (Qf _ g10 (iff' g10 s9 rfl) ?_)))))
 refine Qf [some (.fl (ns.map .int)),some (.ref a),some (.int q),some (.ref t),some (.str (tabT rows)),some (.ref R),some (.int (kk:Int)),some (.ref M3),some (.int (i3:Nat)),none,none] g11 ?_ ?_
 ·unfold mAsg
  rw[Qy (ds:=[.fl (ns.map .int),.ref a,.ref R]) (g':=g10) rfl,e11]
  rfl
 refine Qf _ g12 (iff' g12 s11 rfl) ?_
 refine Qf [some (.fl (ns.map .int)),some (.ref a),some (.int q),some (.ref t),some (.str (tabT rows)),some (.ref R),some (.int (kk:Int)),some (.ref M3),some (.int (i3:Nat)),some (.str (tabT rows')),none] g14 (Qw ?_) ?_
 ·rw[Qy (ds:=[.ref t']) (g':=g13) (Qo (by rw[Qy (ds:=[.fl (ns.map .int),.ref a,.ref t]) (g':=g12) rfl];exact e13) rfl)]
  exact e14
 refine Qf _ g15 (iff' g15 s13 rfl) ?_
 refine Qf _ g17 (iff' g17 ?_ rfl) ?_
 ·unfold mOrT
  rw[s14,Res.bind_ok,Uh Ud,s15]
 refine Qf [some (.fl (ns.map .int)),some (.ref a),some (.int q),some (.ref t),some (.str (tabT rows)),some (.ref R),some (.int (kk:Int)),some (.ref M3),some (.int (i3:Nat)),some (.str (tabT rows')),some (.tup [.str "read",.ref M])] g18 (Qw (by rw[Qy (ds:=[.str (tabT rows)]) (g':=g17) rfl];exact e18)) ?_
 refine Qf _ g18 (iff' g18 ?_ rfl) (QN ?_)
 ·unfold mOrT
  rw[QL (b:=false) (g1:=g18) (Qg (x:=.str "read") (y:=.str "read") (g1:=g18) (g2:=g18) (ixT rfl rfl) rfl (by
   show Res.ok (D.bl (!(Str.ofString "read" == Str.ofString "read"))) g18=_
   rw[UP];rfl)),Res.bind_ok,Uh Ud]
  exact Qe1 (QL (QI (x:=.ref M) (g1:=g18) (ixT rfl rfl) (by unfold QcX;dsimp only;rw[hM];unfold QaZ;dsimp only;exact Uf rfl)))
 ·have at':QfA [11] "table" (mOp2 pIx (mVar 10) (mLit (.int 1))) [some (.fl (ns.map .int)),some (.ref a),some (.int q),some (.ref t),some (.str (tabT rows)),some (.ref R),some (.int (kk:Int)),some (.ref M3),some (.int (i3:Nat)),some (.str (tabT rows')),some (.tup [.str "read",.ref M])] g18=.ok (.tup (rows.map .tup)) g18:=by
   unfold QfA
   refine QI (x:=.ref M) (g1:=g18) (ixT rfl rfl) ?_
   dsimp only
   rw[hM]
   simp[QaZ]
  rw[Qy (ds:=[.tup (rows.map .tup),.tup (rows.map .tup)]) (g':=g19) (Qo at' (Qo e19 rfl))]
  exact e20
theorem law_true(ns:List Int)(hl:ns.length<=63):∃g',Qf4 [.fl (ns.map D.int)] []=.ok (.bl true) g':=by
 have hc:∃c:Nat,c<=6/\(1+(if (ns.length:Int) / 10<5 then (ns.length:Int) / 10 else 5))=c:=by
  refine⟨(1+(if (ns.length:Int) / 10<5 then (ns.length:Int) / 10 else 5)).toNat,?_,?_⟩ <;> split <;> omega
 obtain⟨c,hc6,hc⟩:=hc
 have hit:Q9 (mOp2 pAdd (mLit (.int 1)) (mOp2 QfT (mLit (.int 5)) (mOp2 Q7 (mOp1 pLen (mVar 0)) (mLit (.int 10))))) [some (.fl (ns.map D.int)),some (.ref 0),none] [.lst [.int 0]]=.ok (Zv 0 c) [.lst [.int 0]]:=by
  refine J5 (Qg (x:=.int 1) (y:=.int (if (ns.length:Int) / 10<5 then (ns.length:Int) / 10 else 5)) (g1:=[.lst [.int 0]]) (g2:=[.lst [.int 0]]) rfl (Qg (x:=.int 5) (y:=.int ((ns.length:Int) / 10)) (g1:=[.lst [.int 0]]) (g2:=[.lst [.int 0]]) rfl (Qg (x:=.int ns.length) (g1:=[.lst [.int 0]]) (QI (x:=.fl (ns.map D.int)) (g1:=[.lst [.int 0]]) rfl (by unfold pLen;dsimp only;rw[Uc])) rfl (divP (by decide) (by decide))) rfl) (by rw[<-hc];rfl)) (QeY (by omega))
 obtain⟨σ',g',e,_⟩:=JZ (t:=gSet 2) (body:=QaX) (lo:=0) (n:=c) (σ:=[some (.fl (ns.map D.int)),some (.ref 0),none]) (g:=[.lst [.int 0]])
  (λi σ g1=>(∃y2,σ=[some (.fl (ns.map D.int)),some (.ref 0),y2])/\∃k:Int,g1[0]?=some (.lst [.int k])/\0<=k/\k<=100*i) ⟨⟨none,rfl⟩,0,rfl,by omega,by omega⟩ (λi σ g1 hi hQ=>by
   obtain⟨⟨y2,r1⟩,k,r3,r4,r5⟩:=hQ
   subst r1
   obtain⟨g2,k',e,q1,q2,q3,_⟩:=Qjj ns 0 k g1 r3 r4 (by omega)
   refine⟨[some (.fl (ns.map D.int)),some (.ref 0),some (.int (0+i))],[some (.fl (ns.map D.int)),some (.ref 0),some (.int (0+i))],g2,rfl,?_,⟨_,rfl⟩,k',q1,q2,by omega⟩
   unfold QaX
   exact iff' g2 (Qe1 (QL (by rw[Qy (ds:=[.fl (ns.map .int),.ref 0]) (g':=g1) rfl];exact e))) rfl)
 refine⟨g',QR rfl ?_⟩
 show Qhz [some (.fl (ns.map D.int)),none,none] []=_
 unfold Qhz
 refine Qf [some (.fl (ns.map D.int)),some (.ref 0),none] [.lst [.int 0]] rfl ?_
 exact Qf σ' g' ((YY hit).trans e) (QN rfl)
end L3
namespace V
open PySem PySem.Spec PyProof.Rows L2 L3
theorem ZX{N P:List Str}{sc:Scope}(h1:sc.kind=.function:=by rfl)(h2:sc.isCoroutine=false:=by rfl)(h3:sc.isGenerator=false:=by rfl)(h4:N.Nodup:=by decide +kernel)(h5:N.take P.length=P:=by rfl)(h6:∀x∈P,sc.names.lookup x=some .local\/sc.names.lookup x=some .cell:=by decide +kernel)(h7:∀y∈sc.names,y.2≠.free:=by decide +kernel):FnScope N P sc:=⟨h1,h2,h3,h4,h5,h6,h7⟩
noncomputable def top(i:Nat):Stmt:=PySem.Challenge.pw_tapeproof_k71_spoilt_texts.main.body.getD i (.Pass ⟨0,0,0,0⟩)
noncomputable abbrev Jh:Stmt:=top 13
abbrev QdB:List Str:=["value"]
theorem Qcl:FnScope QdB ["value"] (Qe Jh):=ZX
noncomputable abbrev Ji:Stmt:=top 14
abbrev QdC:List Str:=["value", "many"]
theorem Qcm:FnScope QdC ["value", "many"] (Qe Ji):=ZX
noncomputable abbrev Jj:Stmt:=top 18
abbrev QdD:List Str:=["thing", "states", "signs"]
theorem Qcn:FnScope QdD ["thing", "states", "signs"] (Qe Jj):=ZX
noncomputable abbrev ZW:Stmt:=top 19
abbrev Jo:List Str:=["rows", "states", "signs", "row"]
theorem ZK:FnScope Jo ["rows"] (Qe ZW):=ZX
noncomputable abbrev QM:Stmt:=Qd5 (top 20) 0
abbrev YB:List Str:=["self", "table", "rows"]
theorem Yo:FnScope YB ["self", "table"] (Qe QM):=ZX
noncomputable abbrev Ya:Stmt:=top 25
abbrev Qaf:List Str:=["text"]
theorem QbT:FnScope Qaf ["text"] (Qe Ya):=ZX
noncomputable abbrev Jk:Stmt:=top 26
abbrev QdE:List Str:=["text", "way", "parts"]
theorem YK:FnScope QdE ["text"] (Qe Jk):=ZX
noncomputable abbrev Yp:Stmt:=top 27
abbrev QbU:List Str:=["text"]
theorem Qa5:FnScope QbU ["text"] (Qe Yp):=ZX
noncomputable abbrev Yx:Stmt:=top 28
abbrev Qay:List Str:=["texts"]
theorem Qco:FnScope Qay ["texts"] (Qe Yx):=ZX
noncomputable abbrev QZ:Stmt:=top 29
abbrev Zx:List Str:=["text", "rows", "line", "row"]
theorem Zn:FnScope Zx ["text"] (Qe QZ):=ZX
noncomputable abbrev Qa6:Stmt:=top 31
abbrev Qgg:List Str:=["_law_script", "_law_at", "_law_cell", "_law_m"]
theorem Y4:FnScope Qgg ["_law_script", "_law_at"] (Qe Qa6):=ZX
noncomputable abbrev Y5:Stmt:=top 32
abbrev Qa7:List Str:=["_law_found", "_law_due"]
theorem Qfl:FnScope Qa7 ["_law_found", "_law_due"] (Qe Y5):=ZX
noncomputable abbrev Qag:Stmt:=top 33
abbrev Qfm:List Str:=["_law_script", "_law_at", "_law_states", "_law_signs", "_law_table_here", "_law_k", "_law_line", "_law_j", "_law_m", "_law_entry"]
theorem Zh:FnScope Qfm ["_law_script", "_law_at", "_law_states", "_law_signs"] (Qe Qag):=ZX
noncomputable abbrev JA:Stmt:=top 34
abbrev Qc9:List Str:=["_law_table_here", "_law_rows", "_law_line", "_law_pieces"]
theorem Y6:FnScope Qc9 ["_law_table_here"] (Qe JA):=ZX
noncomputable abbrev Qa8:Stmt:=top 35
abbrev Qgh:List Str:=["_law_text_here", "_law_told_here", "e", "_law_error"]
theorem Yq:FnScope Qgh ["_law_text_here"] (Qe Qa8):=ZX
noncomputable abbrev YL:Stmt:=top 36
abbrev Qcp:List Str:=["_law_script", "_law_at", "_law_row", "_law_m", "_law_pieces", "_law_spot", "_law_some"]
theorem Zi:FnScope Qcp ["_law_script", "_law_at", "_law_row"] (Qe YL):=ZX
noncomputable abbrev Qa9:Stmt:=top 37
abbrev Qgi:List Str:=["_law_script", "_law_at", "_law_rows", "_law_m", "_law_k", "_law_made"]
theorem Y7:FnScope Qgi ["_law_script", "_law_at", "_law_rows"] (Qe Qa9):=ZX
noncomputable abbrev Y8:Stmt:=top 38
abbrev QbV:List Str:=["_law_script", "_law_at", "_law_table_here", "_law_m", "_law_made", "_law_k", "_law_j", "_law_signs", "_law_states", "_law_far"]
theorem Zj:FnScope QbV ["_law_script", "_law_at", "_law_table_here"] (Qe Y8):=ZX
noncomputable abbrev Qba:Stmt:=top 39
abbrev Qfn:List Str:=["_law_script", "_law_at", "_law_m", "_law_table_here", "_law_text_here", "_law_rows", "_law_k", "_law_spoilt", "_law_line", "_law_wrong_here", "_law_back"]
theorem Zo:FnScope Qfn ["_law_script", "_law_at"] (Qe Qba):=ZX
noncomputable abbrev Qgj:Stmt:=top 40
abbrev QjU:List Str:=["_law_script", "_law_at", "_law_turn"]
theorem Qfo:FnScope QjU ["_law_script"] (Qe Qgj):=ZX
noncomputable abbrev Q4:Stmt:=Qd5 (top 11) 0
theorem Qan:FnScope ["self", "line"] ["self", "line"] (Qe Q4):=ZX
def UF(K:Frag)(mg:Str->Option Value)(x:Str)(st:Stmt):Prop:=∃f fd,Fun K x x st f fd/\mg x=some (.ref f)
theorem _root_.L2.Room.m{j k:Nat}{A:Around}(h:Room k A)(e:j<=k:=by omega):Room j A:=h.mono e
theorem Yr{P:Program}{w:World}{K:Frag}{mg:Str->Option Value}{base:Heap}{ca:Nat->Addr}{x:Str}{st:Stmt}{N ps:List Str}{k n j:Nat}{m:MS}(u:UF K mg x st)(S:FnScope N ps (Qe st))(h:∀(f:Addr) (cdv:Value) (A:Around) (outer:List Env) (s:Shared) (H:Hp) (E:XK),Room k (A.deeper (envOfC x (Qe st) s.heap.objs.size f cdv))->PSs3 ca (cxOf (CXW P w ca) P w K mg base N x (Qe st) f cdv A outer s H E) (Zp st) m)(hj:ps.length=j:=by rfl)(hn:N.length-ps.length=n:=by rfl)(hb:∀(kV doc pm:Value) (an:Option Addr) (cdv ct:Value) (us:List Value),us.length=ps.length->bindArgs (fnOf x x (Z5 st) (Zp st) (Qe st) .none kV doc pm an cdv ct) ⟨us,[]⟩=pure (ps.zip us):=by intro _ _ _ _ _ _ us hl;first|(obtain⟨_,rfl⟩:=L3.len1 hl;rfl)|(obtain⟨_,_,rfl⟩:=L3.len2 hl;rfl)|(obtain⟨_,_,_,rfl⟩:=L3.len3 hl;rfl)|(obtain⟨_,_,_,_,rfl⟩:=L3.len4 hl;rfl)):FnH P w K mg base ca x (k+1) j (mDef j n m):=by
 obtain⟨f,fd,F,hm⟩:=u
 exact⟨⟨f,fd,ps,QfC F S hj hn (h f),hm,F.kp,F.binds hb⟩,Qb9 _ _ _⟩
structure Zk(K:Frag)(mg:Str->Option Value)(ca:Nat->Addr):Prop where
 z_ValueError:mg "ValueError" = none
 z_all:mg "all" = none
 z_bool:mg "bool" = none
 z_dict:mg "dict" = none
 z_enumerate:mg "enumerate" = none
 z_int:mg "int" = none
 z_isinstance:mg "isinstance" = none
 z_len:mg "len" = none
 z_list:mg "list" = none
 z_max:mg "max" = none
 z_min:mg "min" = none
 z_range:mg "range" = none
 z_str:mg "str" = none
 z_tuple:mg "tuple" = none
 z_zip:mg "zip" = none
 g_FIGURES:∃k,mg "FIGURES" = some (.str "0123456789" k)
 g_LEFT:∃k,mg "LEFT" = some (.str "l" k)
 g_MOST_FIGURES:∃k,mg "MOST_FIGURES" = some (.int 60 k)
 g_RIGHT:∃k,mg "RIGHT" = some (.str "r" k)
 g_STOP:∃k,mg "STOP" = some (.str "-" k)
 t_TapeError:mg "TapeError" = some (.ref (ca 0))/\CatX K ca (ca 0) [0,1,2,3,4,5,6,7,8,9,10] []
 x_NoMachine:mg "NoMachine" = some (.ref (ca 1))/\IsX K ca (.ref (ca 1)) [0,1,2,3,4,5,6,7,8,9,10] [1]
 x_NoMove:mg "NoMove" = some (.ref (ca 8))/\IsX K ca (.ref (ca 8)) [0,1,2,3,4,5,6,7,8,9,10] [8]
 x_NoNames:mg "NoNames" = some (.ref (ca 2))/\IsX K ca (.ref (ca 2)) [0,1,2,3,4,5,6,7,8,9,10] [2]
 x_NoNumber:mg "NoNumber" = some (.ref (ca 3))/\IsX K ca (.ref (ca 3)) [0,1,2,3,4,5,6,7,8,9,10] [3]
 x_NoShape:mg "NoShape" = some (.ref (ca 7))/\IsX K ca (.ref (ca 7)) [0,1,2,3,4,5,6,7,8,9,10] [7]
 x_NoShot:mg "NoShot" = some (.ref (ca 4))/\IsX K ca (.ref (ca 4)) [0,1,2,3,4,5,6,7,8,9,10] [4]
 x_NoStretches:mg "NoStretches" = some (.ref (ca 5))/\IsX K ca (.ref (ca 5)) [0,1,2,3,4,5,6,7,8,9,10] [5]
 x_NoText:mg "NoText" = some (.ref (ca 10))/\IsX K ca (.ref (ca 10)) [0,1,2,3,4,5,6,7,8,9,10] [10]
 x_NoWidth:mg "NoWidth" = some (.ref (ca 9))/\IsX K ca (.ref (ca 9)) [0,1,2,3,4,5,6,7,8,9,10] [9]
 x_TooLong:mg "TooLong" = some (.ref (ca 6))/\IsX K ca (.ref (ca 6)) [0,1,2,3,4,5,6,7,8,9,10] [6]
 x_ValueError:bootBuiltins "ValueError" = some (.type "ValueError")/\IsX K ca (.type "ValueError") [0,1,2,3,4,5,6,7,8,9,10] [0,1,2,3,4,5,6,7,8,9,10]
 o_Machine:mg "Machine" = some (.ref (ca 11))/\OwnC K ca 11
 e_NoMachine:RaH K mg ca 1 "NoMachine"
 l_NoText:∃f fd,Fun K "__init__" "NoText.__init__" Q4 f fd/\mg "NoText" = some (.ref (ca 10))/\ExL K (ca 10) (ca 0)/\JS K (ca 10) f=true/\isFn K (.ref f)=true/\mg "TapeError" = some (.ref (ca 0))
 a_table:FldOk K ca [11] "table"
 u0:UF K mg "is_whole" Jh
 u1:UF K mg "is_below" Ji
 u2:UF K mg "is_entry" Jj
 u3:UF K mg "check_rows" ZW
 u4:∃f fd,Fun K "__init__" "Machine.__init__" QM f fd/\Mk K (ca 11) f/\mg "Machine" = some (.ref (ca 11))
 u5:UF K mg "is_number" Ya
 u6:UF K mg "entry_in" Jk
 u7:UF K mg "is_as_told" Yp
 u8:UF K mg "read_row" Yx
 u9:UF K mg "read_machine" QZ
 u10:UF K mg "_law_next" Qa6
 u11:UF K mg "_law_same" Y5
 u12:UF K mg "_law_table" Qag
 u13:UF K mg "_law_text" JA
 u14:UF K mg "_law_told" Qa8
 u15:UF K mg "_law_bad_row" YL
 u16:UF K mg "_law_more" Qa9
 u17:UF K mg "_law_wrong" Y8
 u18:UF K mg "_law_one" Qba
 u19:UF K mg "law" Qgj
section
seal PE3 PT3 PW3 PA3 PS3 PSs3 PG3 PI3
variable{P:Program}{w:World}{K:Frag}{mg:Str->Option Value}{base:Heap}{ca:Nat->Addr}
theorem QbW(Z:Zk K mg ca):RaL P w K mg base ca 10 "NoText":=by
 obtain⟨f,fd,F,h1,h2,h3,h4,h5⟩:=Z.l_NoText
 exact⟨ca 0,f,fd,h1,h2,h3,h4,Qhp F Qan h2 h3 h5 rfl (by decide +kernel) (λ_=>rfl),F.binds (ps:=["self", "line"]) (λ_ _ _ _ _ _ us hl=>by obtain⟨_,_,rfl⟩:=L3.len2 hl;rfl)⟩
theorem Qcq(Z:Zk K mg ca):FnH P w K mg base ca "is_whole" 1 1 Yu:=Yr Z.u0 Qcl λ_ _ _ _ _ _ _ hr=>(Qj (QE (QaH (ZO .int Z.z_isinstance Z.z_int Qgz (Qb 0)) (QaG (Qiu (ZO .bool Z.z_isinstance Z.z_bool QeD (Qb 0)))))))
theorem Qah(Z:Zk K mg ca):FnH P w K mg base ca "is_below" 2 2 Ze:=Yr Z.u1 Qcm λ_ _ _ _ _ _ _ hr=>(Qj (QE (QaH (Qv (Qcq Z) hr.m (Qd (Qb 0) Qp)) (QaG (QiK Qi (Qb 0) (Qb 1))))))
theorem Qcr(Z:Zk K mg ca):FnH P w K mg base ca "is_entry" 3 3 ZL:=Yr Z.u2 Qcn λ_ _ _ _ _ _ _ hr=>(Qc (r_if (Qg8 (Qb 0) Qb5) (Qj (QE r_bl)) QB)
 (Qc (r_if (r_w (Qb6 (ZG (QF (ZO .tuple Z.z_isinstance Z.z_tuple Jw (Qb 0)))) (JK (Qdl hr (Zr Z.z_len (Qb 0)) Qi)))) (Qj (QE r_bl)) QB)
 (Qj (QE (QaH (Qv (Qah Z) hr.m (Qd (Qz (Qb 0) Qi) (Qd (Qb 2) Qp))) (QaH (r_in (Qz (Qb 0) Qi) (ZN (Qd (Qat Z.g_LEFT) (Qd (Qat Z.g_RIGHT) Qp)))) (QaG (Qv (Qah Z) hr.m (Qd (Qz (Qb 0) Qi) (Qd (Qb 1) Qp))))))))))
theorem Qbb(Z:Zk K mg ca):FnH P w K mg base ca "check_rows" 4 1 Zg:=Yr Z.u3 ZK λ_ _ _ _ _ _ _ hr=>(Qc (r_if (JQ hr (Zr Z.z_len (Qb 0)) Qi) (Qj (QaQ Z.e_NoMachine hr.hd (Qd Qr Qp))) QB)
 (Qc (QU 1 ZK.nd (Zr Z.z_len (Qb 0)))
 (Qc (QU 2 ZK.nd (Zr Z.z_len (Qz (Qb 0) Qi)))
 (Qc (r_if (JQ hr (Qb 2) Qi) (Qj (QaQ Z.e_NoMachine hr.hd (Qd Qr Qp))) QB)
 (Qj (Qb8 rfl (Zq (Qb 0)) (Q1 3 ZK.nd) (Qc (r_if (Qdl hr (Zr Z.z_len (Qb 3)) (Qb 2)) (Qj (QaQ Z.e_NoMachine hr.hd (Qd Qr Qp))) QB)
 (Qj (r_if (ZG (QF (Qev rfl Z.z_all (YV (QY (Nb:=["thing", "states", "signs"]) (no:=1) (cap:=[1,2]) (N:=Jo) (sc:=Qe ZW) rfl rfl (by decide +kernel)) rfl (Zq (Qb 3)) (λcl C s3 H3 ex=>⟨(Q1 0 (show List.Nodup (["thing", "states", "signs"]:List Str) by decide +kernel)),Jr,(Qv (Qcr Z) hr.m (Qd (Qb 0) (Qd (Qb 1) (Qd (Qb 2) Qp))))⟩))))) (Qj (QaQ Z.e_NoMachine hr.hd (Qd Qr Qp))) QB)))))))))
theorem Qai(Z:Zk K mg ca):MkH P w K mg base ca 11 "Machine" 5 2 Zb:=by
 obtain⟨f,fd,F,hm⟩:=Z.u4
 exact⟨⟨f,fd,["self", "table"],QfC F Yo rfl rfl (λcdv A outer s H E hr=>(Qc (QU 2 Yo.nd (QaK Z.z_tuple (YV (QY (Nb:=["row"]) (no:=1) (cap:=[]) (N:=YB) (sc:=Qe QM) rfl rfl (by decide +kernel)) rfl (Zq (Qb 1)) (λcl C s3 H3 ex=>⟨(Q1 0 (show List.Nodup (["row"]:List Str) by decide +kernel)),Jr,(QaK Z.z_tuple (Qb 0))⟩))))
 (Qc (Qbs (Qv (Qbb Z) hr.m (Qd (Qb 2) Qp)))
 (Qj (Qei (Qb 0) (Qb 2) Z.a_table))))),hm.1,hm.2,F.binds (ps:=["self", "table"]) (λ_ _ _ _ _ _ us hl=>by obtain⟨_,_,rfl⟩:=L3.len2 hl;rfl)⟩,Qb9 _ _ _⟩
theorem Jp(Z:Zk K mg ca):FnH P w K mg base ca "is_number" 1 1 Q2:=Yr Z.u5 QbT λ_ _ _ _ _ _ _ hr=>(Qc (r_if (ZG (QF (Qev rfl Z.z_all (YV (QY (Nb:=["figure"]) (no:=1) (cap:=[]) (N:=Qaf) (sc:=Qe Ya) rfl rfl (by decide +kernel)) rfl (Qhv (Qb 0)) (λcl C s3 H3 ex=>⟨(Q1 0 (show List.Nodup (["figure"]:List Str) by decide +kernel)),Jr,(QjJ (Qb 0) (Qat Z.g_FIGURES))⟩))))) (Qj (QE r_bl)) QB)
 (Qj (QE (QaH (QiL Qi (Zr Z.z_len (Qb 0)) (QiR Z.g_MOST_FIGURES)) (QaG (r_or (r_eq hr (Qb 0) Qr) (QaG (r_ne hr (Qz (Qb 0) Qi) Qr))))))))
theorem Qaj(Z:Zk K mg ca):FnH P w K mg base ca "entry_in" 2 1 Zu:=Yr Z.u6 YK λ_ _ _ _ _ _ _ hr=>(Qc (Qb8 rfl (Zq (ZN (Qd (Qat Z.g_LEFT) (Qd (Qat Z.g_RIGHT) Qp)))) (Q1 1 YK.nd) (Qc (QU 2 YK.nd (Qht (Qb 0) (Qb 1)))
 (Qj (r_if (r_w (YS (QF (Qv (Jp Z) hr.m (Qd (Qz (Qb 2) Qi) Qp))) (YE (QF (Qv (Jp Z) hr.m (Qd (Qz (Qb 2) Qi) Qp)))))) (Qj (QE (ZN (Qd (QgD Z.z_int (Qz (Qb 2) Qi)) (Qd (Qb 1) (Qd (QgD Z.z_int (Qz (Qb 2) Qi)) Qp)))))) QB))))
 (Qj (QE Qb5)))
theorem Qbc(Z:Zk K mg ca):FnH P w K mg base ca "is_as_told" 3 1 QH:=Yr Z.u7 Qa5 λ_ _ _ _ _ _ _ hr=>(Qj (QE (r_or (r_eq hr (Qb 0) (Qat Z.g_STOP)) (QaG (Qg9 (Qv (Qaj Z) hr.m (Qd (Qb 0) Qp)) Qb5)))))
theorem Qcs(Z:Zk K mg ca):FnH P w K mg base ca "read_row" 3 1 ZM:=Yr Z.u8 Qco λ_ _ _ _ _ _ _ hr=>(Qj (QE (YV (QY (Nb:=["text"]) (no:=1) (cap:=[]) (N:=Qay) (sc:=Qe Yx) rfl rfl (by decide +kernel)) rfl (Zq (Qb 0)) (λcl C s3 H3 ex=>⟨(Q1 0 (show List.Nodup (["text"]:List Str) by decide +kernel)),Jr,(Qv (Qaj Z) hr.m (Qd (Qb 0) Qp))⟩))))
theorem Qak(Z:Zk K mg ca):FnH P w K mg base ca "read_machine" 7 1 Qq:=Yr Z.u9 Zn λ_ _ _ _ _ _ _ hr=>(Qc (JO 1 Zn.nd (QY (Nb:=["row"]) (no:=1) (cap:=[]) (N:=Zx) (sc:=Qe QZ) rfl rfl (by decide +kernel)) rfl (Zq (JU (Qb 0) Qr)) (λcl C s3 H3 ex=>⟨(Q1 0 (show List.Nodup (["row"]:List Str) by decide +kernel)),Jr,(JU (Qb 0) Qr)⟩))
 (Qc (Qb8 rfl (QfR Z.z_enumerate (Qb 1)) (Qeh rfl (Jb (Q1 2 Zn.nd) (Jb (Q1 3 Zn.nd) Qeg))) (Qj (r_if (r_w (Qb6 (Qdl hr (Zr Z.z_len (Qb 3)) (Zr Z.z_len (Qz (Qb 1) Qi))) (JK (ZG (QF (Qev rfl Z.z_all (YV (QY (Nb:=["entry"]) (no:=1) (cap:=[]) (N:=Zx) (sc:=Qe QZ) rfl rfl (by decide +kernel)) rfl (Zq (Qb 3)) (λcl C s3 H3 ex=>⟨(Q1 0 (show List.Nodup (["entry"]:List Str) by decide +kernel)),Jr,(Qv (Qbc Z) hr.m (Qd (Qb 0) Qp))⟩)))))))) (Qj (QfO (QbW Z) hr.m (Qb 2))) QB)))
 (Qj (QE (QiA (Qai Z) hr.m (Qd (YV (QY (Nb:=["row"]) (no:=1) (cap:=[]) (N:=Zx) (sc:=Qe QZ) rfl rfl (by decide +kernel)) rfl (Zq (Qb 1)) (λcl C s3 H3 ex=>⟨(Q1 0 (show List.Nodup (["row"]:List Str) by decide +kernel)),Jr,(Qv (Qcs Z) hr.m (Qd (Qb 0) Qp))⟩)) Qp))))))
theorem Z2(Z:Zk K mg ca):FnH P w K mg base ca "_law_next" 1 2 QV:=Yr Z.u10 Y4 λ_ _ _ _ _ _ _ hr=>(Qc (Jc (Qb 1) Qi (ZA (Qz (Qb 1) Qi) Qi))
 (Qc (QU 2 Y4.nd Qi)
 (Qc (r_if (QiF (Zr Z.z_len (Qb 0)) Qi) (Qj (QU 2 Y4.nd (Qz (Qb 0) (ZI (Qz (Qb 1) Qi) (Zr Z.z_len (Qb 0)))))) QB)
 (Qc (QU 3 Y4.nd (ZI (Qcb (ZA (ZA (ZI (Qb 2) Qi) (Qcb (Qcb (Qz (Qb 1) Qi) (Qz (Qb 1) Qi)) Qi)) Qi) Qi) Qi))
 (Qj (QE (ZI (Qcb (Qb 3) (Qb 3)) Qi)))))))
theorem ZS(Z:Zk K mg ca):∀n:Nat,FnH P w K mg base ca "_law_same" (1+n) 2 (QW n)
 |0=>by
  obtain⟨f,fd,F,hm⟩:=Z.u11
  exact⟨⟨f,fd,["_law_found", "_law_due"],Qhj rfl,hm,F.kp,F.binds (ps:=["_law_found", "_law_due"]) (λ_ _ _ _ _ _ us hl=>by obtain⟨_,_,rfl⟩:=L3.len2 hl;rfl)⟩,λ_ _ _=>rfl⟩
 |n+1=>by
  have ih:=ZS Z n
  obtain⟨f,fd,F,hm⟩:=Z.u11
  exact⟨⟨f,fd,["_law_found", "_law_due"],QfC F Qfl rfl rfl (λcdv A outer s H E hr=>(Qc (r_if (Qg8 (Qb 1) Qb5) (Qj (QE (r_is (Qb 0) Qb5))) QB)
 (Qc (r_if (QF (ZO .dict Z.z_isinstance Z.z_dict QeE (Qb 1))) (Qc (r_if (r_w (Qb6 (ZG (QF (ZO .dict Z.z_isinstance Z.z_dict QeE (Qb 0)))) (JK (Qdl hr (Zr Z.z_len (Qb 0)) (Zr Z.z_len (Qb 1)))))) (Qj (QE r_bl)) QB)
 (Qj (QE (Qev rfl Z.z_all (YV (QY (Nb:=["_law_name", "_law_found", "_law_due"]) (no:=1) (cap:=[0,1]) (N:=Qa7) (sc:=Qe Y5) rfl rfl (by decide +kernel)) rfl (Zq (Qb 1)) (λcl C s3 H3 ex=>⟨(Q1 0 (show List.Nodup (["_law_name", "_law_found", "_law_due"]:List Str) by decide +kernel)),Jr,(QaH (r_in (Qb 0) (Qb 1)) (QaG (Qv ih hr (Qd (Qz (Qb 1) (Qb 0)) (Qd (Qz (Qb 2) (Qb 0)) Qp)))))⟩)))))) QB)
 (Qc (r_if (r_w (Qb6 (QF (ZO .list Z.z_isinstance Z.z_list Qcc (Qb 1))) (JK (QF (ZO .tuple Z.z_isinstance Z.z_tuple Jw (Qb 1)))))) (Qc (r_if (r_w (YS (QF (ZO .list Z.z_isinstance Z.z_list Qcc (Qb 1))) (YE (ZG (QF (ZO .list Z.z_isinstance Z.z_list Qcc (Qb 0))))))) (Qj (QE r_bl)) QB)
 (Qc (r_if (r_w (Qb6 (r_w (YS (QF (ZO .tuple Z.z_isinstance Z.z_tuple Jw (Qb 1))) (YE (ZG (QF (ZO .tuple Z.z_isinstance Z.z_tuple Jw (Qb 0))))))) (JK (Qdl hr (Zr Z.z_len (Qb 0)) (Zr Z.z_len (Qb 1)))))) (Qj (QE r_bl)) QB)
 (Qj (QE (Qev rfl Z.z_all (YV (QY (Nb:=["_law_one_here", "_law_other"]) (no:=2) (cap:=[]) (N:=Qa7) (sc:=Qe Y5) rfl rfl (by decide +kernel)) rfl (QjH Z.z_zip (Qb 0) (Qb 1)) (λcl C s3 H3 ex=>⟨(Qeh rfl (Jb (Q1 0 (show List.Nodup (["_law_one_here", "_law_other"]:List Str) by decide +kernel)) (Jb (Q1 1 (show List.Nodup (["_law_one_here", "_law_other"]:List Str) by decide +kernel)) Qeg))),Jr,(Qv ih hr (Qd (Qb 0) (Qd (Qb 1) Qp)))⟩))))))) QB)
 (Qc (r_if (QF (ZO .str Z.z_isinstance Z.z_str QgA (Qb 1))) (Qj (QE (QaH (ZO .str Z.z_isinstance Z.z_str QgA (Qb 0)) (QaG (r_eq hr (Qb 0) (Qb 1)))))) QB)
 (Qj (QE (QaH (ZO .int Z.z_isinstance Z.z_int Qgz (Qb 0)) (QaH (Qiu (ZO .bool Z.z_isinstance Z.z_bool QeD (Qb 0))) (QaG (r_eq hr (Qb 0) (Qb 1)))))))))))),hm,F.kp,F.binds (ps:=["_law_found", "_law_due"]) (λ_ _ _ _ _ _ us hl=>by obtain⟨_,_,rfl⟩:=L3.len2 hl;rfl)⟩,Qb9 _ _ _⟩
theorem QdF(Z:Zk K mg ca):FnH P w K mg base ca "_law_table" 2 4 JW:=Yr Z.u12 Zh λ_ _ _ _ _ _ _ hr=>(Qc (QU 4 Zh.nd (JL Qp))
 (Qc (Qb8 rfl (QaI Z.z_range (Qb 2)) (Q1 5 Zh.nd) (Qc (QU 6 Zh.nd (JL Qp))
 (Qc (Qb8 rfl (QaI Z.z_range (Qb 3)) (Q1 7 Zh.nd) (Qc (QU 8 Zh.nd (Qv (Z2 Z) hr.m (Qd (Qb 0) (Qd (Qb 1) Qp))))
 (Qc (QU 9 Zh.nd (ZN (Qd (ZI (Z0 (Qb 8) Qi) (Qb 3)) (Qd (Qz Qr (ZI (Z0 (Qb 8) Qi) Qi)) (Qd (ZI (Z0 (Qb 8) Qi) (Qb 2)) Qp)))))
 (Qc (r_if (JQ hr (ZI (Qb 8) Qi) Qi) (Qj (QU 9 Zh.nd Qb5)) QB)
 (Qj (Qbs (QaL (Qb 6) (Qb 9))))))))
 (Qj (Qbs (QaL (Qb 4) (Qb 6)))))))
 (Qj (QE (Qb 4)))))
theorem QbX(Z:Zk K mg ca):FnH P w K mg base ca "_law_text" 1 1 Jx:=Yr Z.u13 Y6 λ_ _ _ _ _ _ _ hr=>(Qc (QU 1 Y6.nd (JL Qp))
 (Qc (Qb8 rfl (Zq (Qb 0)) (Q1 2 Y6.nd) (Qc (JO 3 Y6.nd (QY (Nb:=["_law_entry"]) (no:=1) (cap:=[]) (N:=Qc9) (sc:=Qe JA) rfl rfl (by decide +kernel)) rfl (Zq (Qb 2)) (λcl C s3 H3 ex=>⟨(Q1 0 (show List.Nodup (["_law_entry"]:List Str) by decide +kernel)),Jr,(QjC (Qg8 (Qb 0) Qb5) Qr (ZA (ZA (QgC Z.z_str (Qz (Qb 0) Qi)) (Qz (Qb 0) Qi)) (QgC Z.z_str (Qz (Qb 0) Qi))))⟩))
 (Qj (Qbs (QaL (Qb 1) (Qav Qr (Qb 3)))))))
 (Qj (QE (Qav Qr (Qb 1))))))
theorem Z3(Z:Zk K mg ca):FnH P w K mg base ca "_law_told" 8 1 QX:=Yr Z.u14 Yq λ_ _ _ _ _ _ _ hr=>(Qc (Qhi 2 Yq.nd Z.t_TapeError (Qj (QU 1 Yq.nd (ZN (Qd Qr (Qd (Qv (Qak Z) hr.m (Qd (Qb 0) Qp)) Qp))))) (λa=>(Qj (QU 1 Yq.nd (ZN (Qd Qr (Qd (Qb 2) Qp)))))))
 (Qc (r_if (JQ hr (Qz (Qb 1) Qi) Qr) (Qj (QE (Qb 1))) QB)
 (Qc (QU 3 Yq.nd (Qz (Qb 1) Qi))
 (Qc (r_if (QF (Qf2 Z.z_isinstance (YG Z.x_NoMove (YG Z.x_NoNames (YG Z.x_NoNumber (YG Z.x_NoShape (YG Z.x_NoShot (YG Z.x_NoStretches (YG Z.x_NoWidth (Qi1 Z.x_TooLong)))))))) (Qb 3))) (Qj (QE (ZN (Qd Qr (Qd Qi Qp))))) QB)
 (Qc (r_if (r_w (YS (QF (QaP Z.z_isinstance Z.x_NoText (Qb 3))) (YS (QF (Qez Z.z_isinstance Z.z_ValueError Z.x_ValueError (Qb 3))) (YE (ZG (QF (QaP Z.z_isinstance Z.x_NoMachine (Qb 3)))))))) (Qj (QE (ZN (Qd Qr (Qd (QiV (QbW Z) (Qb 3)) Qp))))) QB)
 (Qc (r_if (r_w (YS (QF (QaP Z.z_isinstance Z.x_NoMachine (Qb 3))) (YS (QF (Qez Z.z_isinstance Z.z_ValueError Z.x_ValueError (Qb 3))) (YE (ZG (QF (QaP Z.z_isinstance Z.x_NoText (Qb 3)))))))) (Qj (QE (ZN (Qd Qr (Qd Qi Qp))))) QB)
 (Qj (QE (ZN (Qd Qr (Qd Qi Qp)))))))))))
theorem Jq(Z:Zk K mg ca):FnH P w K mg base ca "_law_bad_row" 2 3 Zd:=Yr Z.u15 Zi λ_ _ _ _ _ _ _ hr=>(Qc (QU 3 Zi.nd (Qv (Z2 Z) hr.m (Qd (Qb 0) (Qd (Qb 1) Qp))))
 (Qc (QU 4 Zi.nd (JU (Qb 2) Qr))
 (Qc (QU 5 Zi.nd (ZI (Z0 (Qb 3) Qi) (Zr Z.z_len (Qb 4))))
 (Qc (r_if (JQ hr (ZI (Qb 3) Qi) Qi) (Qj (QE (ZA (Qb 2) Qr))) QB)
 (Qc (r_if (JQ hr (ZI (Qb 3) Qi) Qi) (Qj (QE (ZA Qr (Qb 2)))) QB)
 (Qc (r_if (JQ hr (ZI (Qb 3) Qi) Qi) (Qj (QE (Qav Qr (ZA (ZA (Qex (Qb 4) QcO (Qgv (Qb 5))) (JL (Qd Qr Qp))) (Qex (Qb 4) (Qgv (Qb 5)) QcO))))) QB)
 (Qc (QU 6 Zi.nd (JL (Qd Qr (Qd Qr (Qd Qr (Qd Qr (Qd Qr (Qd Qr (Qd Qr (Qd Qr (Qd Qr (Qd Qr (Qd Qr (Qd Qr (Qd Qr Qp)))))))))))))))
 (Qc (QU 6 Zi.nd (ZA (Qb 6) (JL (Qd Qr (Qd Qr (Qd Qr (Qd (ZA (ZA Qr (Qcb Qr Qi)) Qr) (Qd (ZA Qr (Qcb Qr Qi)) (Qd Qr (Qd Qr Qp))))))))))
 (Qc (Jc (Qb 4) (Qb 5) (Qz (Qb 6) (ZI (Z0 (Qb 3) Qi) Qi)))
 (Qj (QE (Qav Qr (Qb 4)))))))))))))
theorem Qfp(Z:Zk K mg ca):FnH P w K mg base ca "_law_more" 2 3 QaW:=Yr Z.u16 Y7 λ_ _ _ _ _ _ _ hr=>(Qc (QU 3 Y7.nd (Qv (Z2 Z) hr.m (Qd (Qb 0) (Qd (Qb 1) Qp))))
 (Qc (QU 4 Y7.nd (ZI (Qb 3) (Zr Z.z_len (Qb 2))))
 (Qc (QU 5 Y7.nd (Qep Z.z_list (Qb 2)))
 (Qc (r_if (JQ hr (ZI (Z0 (Qb 3) Qi) Qi) Qi) (Qj (QE (ZN (Qd (ZA (Qb 5) (JL (Qd Qr Qp))) (Qd (Zr Z.z_len (Qb 2)) Qp))))) QB)
 (Qc (r_if (JQ hr (ZI (Z0 (Qb 3) Qi) Qi) Qi) (Qc (Jc (Qb 5) (Qb 4) (ZA (Qz (Qb 5) (Qb 4)) Qr))
 (Qc (r_if (r_w (YS (JQ hr (Qb 4) Qi) (YE (QiF (Zr Z.z_len (Qb 2)) Qi)))) (Qj (QE (ZN (Qd (Qb 5) (Qd Qi Qp))))) QB)
 (Qj (QE (ZN (Qd (ZA (Qb 5) (JL (Qd (ZA Qr (Qcb Qr (Zr Z.z_len (JU (Qz (Qb 2) Qi) Qr)))) Qp))) (Qd (QiY rfl Z.z_max (Qb 4) Qi) Qp))))))) QB)
 (Qc (Qbs (Qf3 (Qb 5) (Qb 4) Qr))
 (Qj (QE (ZN (Qd (Qb 5) (Qd (Qb 4) Qp)))))))))))
theorem QdG(Z:Zk K mg ca):FnH P w K mg base ca "_law_wrong" 2 3 JY:=Yr Z.u17 Zj λ_ _ _ _ _ _ _ hr=>(Qc (QU 3 Zj.nd (Qv (Z2 Z) hr.m (Qd (Qb 0) (Qd (Qb 1) Qp))))
 (Qc (JO 4 Zj.nd (QY (Nb:=["_law_line"]) (no:=1) (cap:=[]) (N:=QbV) (sc:=Qe Y8) rfl rfl (by decide +kernel)) rfl (Zq (Qb 2)) (λcl C s3 H3 ex=>⟨(Q1 0 (show List.Nodup (["_law_line"]:List Str) by decide +kernel)),Jr,(Qep Z.z_list (Qb 0))⟩))
 (Qc (QU 5 Zj.nd (ZI (Qb 3) (Zr Z.z_len (Qb 4))))
 (Qc (QU 6 Zj.nd (ZI (Z0 (Qb 3) Qi) (Zr Z.z_len (Qz (Qb 4) Qi))))
 (Qc (QU 7 Zj.nd (Zr Z.z_len (Qz (Qb 4) Qi)))
 (Qc (QU 8 Zj.nd (Zr Z.z_len (Qb 4)))
 (Qc (QU 9 Zj.nd (Qz (JL (Qd Qi (Qd Qi (Qd (Qi2 Qi Qi) (Qd (Qi2 Qi Qi) Qp))))) (ZI (Z0 (Qb 3) Qi) Qi)))
 (Qc (Jc (Qz (Qb 4) (Qb 5)) (Qb 6) (Qz (JL (Qd (ZN (Qd (Qb 7) (Qd Qr (Qd Qi Qp)))) (Qd (ZN (Qd Qi (Qd Qr (Qd (Qb 8) Qp)))) (Qd (ZN (Qd (ZA (QiE (Qb 7) Qi) (Qb 9)) (Qd Qr (Qd Qi Qp)))) (Qd (ZN (Qd Qi (Qd Qr (Qd (ZA (QiE (Qb 8) Qi) (Qb 9)) Qp)))) Qp))))) (ZI (Z0 (Qb 3) Qi) Qi)))
 (Qj (QE (Qb 4)))))))))))
theorem Qgk(Z:Zk K mg ca):FnH P w K mg base ca "_law_one" 9 2 Qch:=Yr Z.u18 Zo λ_ _ _ _ _ _ _ hr=>(Qc (QU 2 Zo.nd (Qv (Z2 Z) hr.m (Qd (Qb 0) (Qd (Qb 1) Qp))))
 (Qc (QU 3 Zo.nd (Qv (QdF Z) hr.m (Qd (Qb 0) (Qd (Qb 1) (Qd (ZA Qi (ZI (Qb 2) Qi)) (Qd (ZA Qi (ZI (Z0 (Qb 2) Qi) Qi)) Qp))))))
 (Qc (QU 4 Zo.nd (Qv (QbX Z) hr.m (Qd (Qb 3) Qp)))
 (Qc (QU 5 Zo.nd (JU (Qb 4) Qr))
 (Qc (QU 6 Zo.nd (ZI (Qv (Z2 Z) hr.m (Qd (Qb 0) (Qd (Qb 1) Qp))) (Zr Z.z_len (Qb 5))))
 (Qc (QU 7 Zo.nd (Qep Z.z_list (Qb 5)))
 (Qc (Jc (Qb 7) (Qb 6) (Qv (Jq Z) hr.m (Qd (Qb 0) (Qd (Qb 1) (Qd (Qz (Qb 5) (Qb 6)) Qp)))))
 (Qc (r_if (r_w (YS (JQ hr (ZI (Z0 (Qb 2) Qi) Qi) Qi) (YE (QjF (ZA (Qb 6) Qi) (Zr Z.z_len (Qb 5)))))) (Qj (Jc (Qb 7) (ZA (Qb 6) Qi) (Qv (Jq Z) hr.m (Qd (Qb 0) (Qd (Qb 1) (Qd (Qz (Qb 5) (ZA (Qb 6) Qi)) Qp)))))) QB)
 (Qc (r_if (ZG (QF (Qv (ZS Z 6) hr.m (Qd (Qv (Z3 Z) hr.m (Qd (Qav Qr (Qb 7)) Qp)) (Qd (ZN (Qd Qr (Qd (Qb 6) Qp))) Qp))))) (Qj (QE r_bl)) QB)
 (Qc (QjD (Qv (Qfp Z) hr.m (Qd (Qb 0) (Qd (Qb 1) (Qd (Qb 5) Qp)))) (Qeh rfl (Jb (Q1 7 Zo.nd) (Jb (Q1 8 Zo.nd) Qeg))))
 (Qc (r_if (ZG (QF (Qv (ZS Z 6) hr.m (Qd (Qv (Z3 Z) hr.m (Qd (Qav Qr (Qb 7)) Qp)) (Qd (ZN (Qd Qr (Qd (Qb 8) Qp))) Qp))))) (Qj (QE r_bl)) QB)
 (Qc (QU 9 Zo.nd (Qv (QbX Z) hr.m (Qd (Qv (QdG Z) hr.m (Qd (Qb 0) (Qd (Qb 1) (Qd (Qb 3) Qp)))) Qp)))
 (Qc (r_if (ZG (QF (Qv (ZS Z 6) hr.m (Qd (Qv (Z3 Z) hr.m (Qd (Qb 9) Qp)) (Qd (ZN (Qd Qr (Qd Qi Qp))) Qp))))) (Qj (QE r_bl)) QB)
 (Qc (r_if (r_w (Qb6 (ZG (QF (Qv (ZS Z 6) hr.m (Qd (Qv (Z3 Z) hr.m (Qd (ZA (Qb 9) Qr) Qp)) (Qd (ZN (Qd Qr (Qd (Zr Z.z_len (Qb 5)) Qp))) Qp))))) (JK (ZG (QF (Qv (ZS Z 6) hr.m (Qd (Qv (Z3 Z) hr.m (Qd Qr Qp)) (Qd (ZN (Qd Qr (Qd Qi Qp))) Qp)))))))) (Qj (QE r_bl)) QB)
 (Qc (QU 10 Zo.nd (Qv (Z3 Z) hr.m (Qd (Qb 4) Qp)))
 (Qc (r_if (r_w (Qb6 (Qdl hr (Qz (Qb 10) Qi) Qr) (JK (ZG (QF (Qhw Z.z_isinstance Z.o_Machine (Qz (Qb 10) Qi))))))) (Qj (QE r_bl)) QB)
 (Qj (QE (Qv (ZS Z 6) hr.m (Qd (Qiy (Qz (Qb 10) Qi) Z.a_table) (Qd (QaK Z.z_tuple (YV (QY (Nb:=["_law_line"]) (no:=1) (cap:=[]) (N:=Qfn) (sc:=Qe Qba) rfl rfl (by decide +kernel)) rfl (Zq (Qb 3)) (λcl C s3 H3 ex=>⟨(Q1 0 (show List.Nodup (["_law_line"]:List Str) by decide +kernel)),Jr,(QaK Z.z_tuple (Qb 0))⟩))) Qp)))))))))))))))))))))
theorem Qjk(Z:Zk K mg ca){f:Addr}{fd:FuncData}(F:Fun K "law" "law" Qgj f fd):FnOk P w K mg base (CXW P w ca) 10 f fd ["_law_script"] (spM K ca 1 Qf4) :=
 QfC F Qfo rfl rfl (λcdv A outer s H E hr=>(Qc (QU 1 Qfo.nd (JL (Qd Qi Qp)))
 (Qc (Qb8 rfl (QaI Z.z_range (ZA Qi (QiX rfl Z.z_min Qi (Z0 (Zr Z.z_len (Qb 0)) Qi)))) (Q1 2 Qfo.nd) (Qj (r_if (ZG (QF (Qv (Qgk Z) hr.m (Qd (Qb 0) (Qd (Qb 1) Qp))))) (Qj (QE r_bl)) QB)))
 (Qj (QE r_bl)))))
end
noncomputable def caOf(l:List Nat)(n:Nat):Addr:=l.getD n 0
def FA(K:Frag)(x:Str)(st:Stmt):Prop:=∃(f:Addr)(oc kV dc pm cd ct:Value)(od an:Option Addr)(sl:Array (Option Value)),nsIn K mainGlobals x=some (some (.ref f))/\K.lookup f=some ⟨oc,od,.func (fnOf x x (Z5 st) (Zp st) (Qe st) .none kV dc pm an cd ct),sl⟩/\codeIn K cd x=true/\keepIn K (.ref f)=true
theorem fa_mk{K:Frag}{x:Str}{st:Stmt}{f:Addr}{oc kV dc pm cd ct:Value}{od an:Option Addr}{sl:Array (Option Value)}(a:nsIn K mainGlobals x=some (some (.ref f)))(l:K.lookup f=some ⟨oc,od,.func (fnOf x x (Z5 st) (Zp st) (Qe st) .none kV dc pm an cd ct),sl⟩)(d:codeIn K cd x=true)(k:keepIn K (.ref f)=true):FA K x st:=⟨f,oc,kV,dc,pm,cd,ct,od,an,sl,a,l,d,k⟩
theorem FA.u{K:Frag}{h:Heap}{mg:Str->Option Value}{x:Str}{st:Stmt}(a:FA K x st)(X:K.In h)(G:h.Ns mainGlobals mg):UF K mg x st:=by
 obtain⟨f,oc,kV,dc,pm,cd,ct,od,an,sl,a,l,d,k⟩:=a
 exact⟨f,_,Qd6 l d k,UJ X G a⟩
theorem z_mk{K:Frag}{h:Heap}{mg:Str->Option Value}(X:K.In h)(G:h.Ns mainGlobals mg){C0 C1 C2 C3 C4 C5 C6 C7 C8 C9 C10 C11:Addr}{oc20 kV20 dc20 pm20 cd20 ct20:Value}{od20 an20:Option Addr}{sl20:Array (Option Value)}{f20:Addr}{og_FIGURES:_}{og_LEFT:_}{og_MOST_FIGURES:_}{og_RIGHT:_}{og_STOP:_}{ocL kVL dcL pmL cdL ctL:Value}{odL anL:Option Addr}{slL:Array (Option Value)}{fL:Addr}(c0:nsIn K mainGlobals "TapeError" = some (some (.ref C0)))(c1:nsIn K mainGlobals "NoMachine" = some (some (.ref C1)))(c2:nsIn K mainGlobals "NoNames" = some (some (.ref C2)))(c3:nsIn K mainGlobals "NoNumber" = some (some (.ref C3)))(c4:nsIn K mainGlobals "NoShot" = some (some (.ref C4)))(c5:nsIn K mainGlobals "NoStretches" = some (some (.ref C5)))(c6:nsIn K mainGlobals "TooLong" = some (some (.ref C6)))(c7:nsIn K mainGlobals "NoShape" = some (some (.ref C7)))(c8:nsIn K mainGlobals "NoMove" = some (some (.ref C8)))(c9:nsIn K mainGlobals "NoWidth" = some (some (.ref C9)))(c10:nsIn K mainGlobals "NoText" = some (some (.ref C10)))(c11:nsIn K mainGlobals "Machine" = some (some (.ref C11)))(a1:FA K "is_whole" Jh)(a2:FA K "is_below" Ji)(a3:FA K "is_entry" Jj)(a4:FA K "check_rows" ZW)(a5:FA K "is_number" Ya)(a6:FA K "entry_in" Jk)(a7:FA K "is_as_told" Yp)(a8:FA K "read_row" Yx)(a9:FA K "read_machine" QZ)(a10:FA K "_law_next" Qa6)(a11:FA K "_law_same" Y5)(a12:FA K "_law_table" Qag)(a13:FA K "_law_text" JA)(a14:FA K "_law_told" Qa8)(a15:FA K "_law_bad_row" YL)(a16:FA K "_law_more" Qa9)(a17:FA K "_law_wrong" Y8)(a18:FA K "_law_one" Qba)(a19:FA K "law" Qgj)(a20:findIn K (.ref C11) "__init__" = some (some (.ref f20)))(l20:K.lookup f20=some ⟨oc20,od20,.func (fnOf "__init__" "Machine.__init__" (Z5 QM) (Zp QM) (Qe QM) .none kV20 dc20 pm20 an20 cd20 ct20),sl20⟩)(d20:codeIn K cd20 "Machine.__init__" = true)(k20:keepIn K (.ref f20)=true)(i20:isFn K (.ref f20)=true)(m20:makesIn K C11=true)(q20:keepIn K (.ref C11)=true)(nz_ValueError:nsIn K mainGlobals "ValueError" = some none)(nz_all:nsIn K mainGlobals "all" = some none)(nz_bool:nsIn K mainGlobals "bool" = some none)(nz_dict:nsIn K mainGlobals "dict" = some none)(nz_enumerate:nsIn K mainGlobals "enumerate" = some none)(nz_int:nsIn K mainGlobals "int" = some none)(nz_isinstance:nsIn K mainGlobals "isinstance" = some none)(nz_len:nsIn K mainGlobals "len" = some none)(nz_list:nsIn K mainGlobals "list" = some none)(nz_max:nsIn K mainGlobals "max" = some none)(nz_min:nsIn K mainGlobals "min" = some none)(nz_range:nsIn K mainGlobals "range" = some none)(nz_str:nsIn K mainGlobals "str" = some none)(nz_tuple:nsIn K mainGlobals "tuple" = some none)(nz_zip:nsIn K mainGlobals "zip" = some none)(ng_FIGURES:nsIn K mainGlobals "FIGURES" = some (some (.str "0123456789" og_FIGURES)))(ng_LEFT:nsIn K mainGlobals "LEFT" = some (some (.str "l" og_LEFT)))(ng_MOST_FIGURES:nsIn K mainGlobals "MOST_FIGURES" = some (some (.int 60 og_MOST_FIGURES)))(ng_RIGHT:nsIn K mainGlobals "RIGHT" = some (some (.str "r" og_RIGHT)))(ng_STOP:nsIn K mainGlobals "STOP" = some (some (.str "-" og_STOP)))(nt_TapeError:catB K (caOf [C0,C1,C2,C3,C4,C5,C6,C7,C8,C9,C10,C11]) C0 [0,1,2,3,4,5,6,7,8,9,10] []=true)(nx_NoMachine:isxB K (caOf [C0,C1,C2,C3,C4,C5,C6,C7,C8,C9,C10,C11]) (.ref C1) [0,1,2,3,4,5,6,7,8,9,10] [1]=true)(nx_NoMove:isxB K (caOf [C0,C1,C2,C3,C4,C5,C6,C7,C8,C9,C10,C11]) (.ref C8) [0,1,2,3,4,5,6,7,8,9,10] [8]=true)(nx_NoNames:isxB K (caOf [C0,C1,C2,C3,C4,C5,C6,C7,C8,C9,C10,C11]) (.ref C2) [0,1,2,3,4,5,6,7,8,9,10] [2]=true)(nx_NoNumber:isxB K (caOf [C0,C1,C2,C3,C4,C5,C6,C7,C8,C9,C10,C11]) (.ref C3) [0,1,2,3,4,5,6,7,8,9,10] [3]=true)(nx_NoShape:isxB K (caOf [C0,C1,C2,C3,C4,C5,C6,C7,C8,C9,C10,C11]) (.ref C7) [0,1,2,3,4,5,6,7,8,9,10] [7]=true)(nx_NoShot:isxB K (caOf [C0,C1,C2,C3,C4,C5,C6,C7,C8,C9,C10,C11]) (.ref C4) [0,1,2,3,4,5,6,7,8,9,10] [4]=true)(nx_NoStretches:isxB K (caOf [C0,C1,C2,C3,C4,C5,C6,C7,C8,C9,C10,C11]) (.ref C5) [0,1,2,3,4,5,6,7,8,9,10] [5]=true)(nx_NoText:isxB K (caOf [C0,C1,C2,C3,C4,C5,C6,C7,C8,C9,C10,C11]) (.ref C10) [0,1,2,3,4,5,6,7,8,9,10] [10]=true)(nx_NoWidth:isxB K (caOf [C0,C1,C2,C3,C4,C5,C6,C7,C8,C9,C10,C11]) (.ref C9) [0,1,2,3,4,5,6,7,8,9,10] [9]=true)(nx_TooLong:isxB K (caOf [C0,C1,C2,C3,C4,C5,C6,C7,C8,C9,C10,C11]) (.ref C6) [0,1,2,3,4,5,6,7,8,9,10] [6]=true)(nx_ValueError:isxB K (caOf [C0,C1,C2,C3,C4,C5,C6,C7,C8,C9,C10,C11]) (.type "ValueError") [0,1,2,3,4,5,6,7,8,9,10] [0,1,2,3,4,5,6,7,8,9,10]=true)(no_Machine:ownB K (caOf [C0,C1,C2,C3,C4,C5,C6,C7,C8,C9,C10,C11]) 11=true)(ne_NoMachine:excIn K C1 bmV "ValueError.__new__" = true)(aL:findIn K (.ref C10) "__init__" = some (some (.ref fL)))(lL:K.lookup fL=some ⟨ocL,odL,.func (fnOf "__init__" "NoText.__init__" (Z5 Q4) (Zp Q4) (Qe Q4) .none kVL dcL pmL anL cdL ctL),slL⟩)(dL:codeIn K cdL "NoText.__init__" = true)(kL:keepIn K (.ref fL)=true)(iL:isFn K (.ref fL)=true)(xL:JS K C10 fL=true)(eL:exlB K C10 C0=true)(na_table:fldB K (caOf [C0,C1,C2,C3,C4,C5,C6,C7,C8,C9,C10,C11]) [11] "table" = true):Zk K mg (caOf [C0,C1,C2,C3,C4,C5,C6,C7,C8,C9,C10,C11]) :=
  ⟨UI X G nz_ValueError,
   UI X G nz_all,
   UI X G nz_bool,
   UI X G nz_dict,
   UI X G nz_enumerate,
   UI X G nz_int,
   UI X G nz_isinstance,
   UI X G nz_len,
   UI X G nz_list,
   UI X G nz_max,
   UI X G nz_min,
   UI X G nz_range,
   UI X G nz_str,
   UI X G nz_tuple,
   UI X G nz_zip,
   ⟨_,UJ X G ng_FIGURES⟩,
   ⟨_,UJ X G ng_LEFT⟩,
   ⟨_,UJ X G ng_MOST_FIGURES⟩,
   ⟨_,UJ X G ng_RIGHT⟩,
   ⟨_,UJ X G ng_STOP⟩,
   ⟨UJ X G c0,QiP nt_TapeError⟩,
   ⟨UJ X G c1,Yl nx_NoMachine⟩,
   ⟨UJ X G c8,Yl nx_NoMove⟩,
   ⟨UJ X G c2,Yl nx_NoNames⟩,
   ⟨UJ X G c3,Yl nx_NoNumber⟩,
   ⟨UJ X G c7,Yl nx_NoShape⟩,
   ⟨UJ X G c4,Yl nx_NoShot⟩,
   ⟨UJ X G c5,Yl nx_NoStretches⟩,
   ⟨UJ X G c10,Yl nx_NoText⟩,
   ⟨UJ X G c9,Yl nx_NoWidth⟩,
   ⟨UJ X G c6,Yl nx_TooLong⟩,
   ⟨QaR,Yl nx_ValueError⟩,
   ⟨UJ X G c11,Qi0 no_Machine⟩,
   ⟨UJ X G c1,ne_NoMachine⟩,
   ⟨fL,_,Qd6 (st:=Q4) lL dL kL,UJ X G c10,QiU eL,xL,iL,UJ X G c0⟩,
   QiQ na_table,
   a1.u X G,
   a2.u X G,
   a3.u X G,
   a4.u X G,
   ⟨f20,_,Qd6 (st:=QM) l20 d20 k20,⟨m20,a20,i20,q20⟩,UJ X G c11⟩,
   a5.u X G,
   a6.u X G,
   a7.u X G,
   a8.u X G,
   a9.u X G,
   a10.u X G,
   a11.u X G,
   a12.u X G,
   a13.u X G,
   a14.u X G,
   a15.u X G,
   a16.u X G,
   a17.u X G,
   a18.u X G,
   a19.u X G⟩
theorem walk{l:PySem.W.OpenLaw}{p:Program}{loose:List Str}{XP:(Str->Option Value)->Heap->Prop}{YP:World->Heap->Prop}{d:DefRec}{K:Params->Frag}(C:List Nat)(hn:l.most=some 63)(hdf:d.params.defaults=[])(hd:d.name = "law")(hY:∀(w:World) (h:Heap),YP w h->(K w.params).In h)(F:∀(w:World) (mg:Str->Option Value) (h:Heap),(K w.params).In h->h.Ns mainGlobals mg->Zk (K w.params) mg (caOf C))(M:∀ns:List Int,ns.length<=63->∃g',Qf4 [.fl (ns.map D.int)] []=.ok (.bl true) g'):PySem.W.WalkO p loose XP YP l.row.toRowW d [] (λf vs=>PySem.call f vs):=by
 refine L2.walk_of (n:=63) (k:=10) (x:="_law_script") (CX:=λw=>CXW l.prog w (caOf C)) (sp:=λw=>spM (K w.params) (caOf C) 1 Qf4) hn (by decide) hdf ⟨rfl,by decide,by decide⟩ hY (λw mg fa h KX G hmg=>?_) (λw H a ns hl hO hS=>QiS hO hS (M ns hl)) (λw H s e s' z=>?_)
 ·have Z:=F w mg h KX G
  obtain⟨f,fd,Fu,hm⟩:=Z.u19
  rw[hd]at hmg
  have e:=hmg.symm.trans hm
  cases e
  refine⟨fd,λs u=>?_,λbase _ _=>Qjk Z Fu⟩
  obtain⟨oc,od,kV,doc,pm,an,cdv,ct,osl,rfl,lk,hcd⟩:=Fu.ex
  exact .of_eq rfl
 ·obtain⟨_,_,_,_,_,_,_,_,_,_,z⟩:=z
  exact z
end V
namespace V
open PySem PySem.W PySem.W.X PySem.Spec PyProof.Rows
theorem walkX_of{as:List Addr}{K:Params->Frag}{n t:Nat}{q:Program}{loose:List Str}{XP:(Str->Option Value)->Heap->Prop}{r:RowW}{d:DefRec}{kwd:List (Str×PySem.Expr)}{run:Value->List Value->Sem Value}(e:∀P,as=(K P).map (·.1))(h:WalkO q loose XP (InK K) r d kwd run):WalkX q loose XP (obsZ as) (valZ K n t) r d kwd run :=
 λw s₀ s₁ mg mb G y a o pm cd doc dV kV h1 h2 h3 h4 h5 h6 args vals as' L p1 p2 p3 p4 p5 =>
  h w s₀ s₁ mg mb G (InK.keeps w _ _ (z_facts e y).2.1 L.keeps) a o pm cd doc dV kV h1 h2 h3 h4 h5 h6 args vals as' p1 p2 p3 p4 p5
end V
noncomputable def PySem.W.Fast.tw8103221181386175320 : PySem.Program := PySem.Challenge.pw_tapeproof_k71_spoilt_texts
theorem PySem.W.Fast.te8103221181386175320 : PySem.Challenge.pw_tapeproof_k71_spoilt_texts = PySem.W.Fast.tw8103221181386175320 := rfl
def PySem.W.Fast.tw16648156481866780359 : Unit := ()
def PySem.W.Fast.tw16319533115532894018 : Unit := ()
def PySem.W.Fast.tw14154733461865594410 : Unit := ()
def PySem.W.Fast.tw6499563687091001542 : Unit := ()
def PySem.W.Fast.tw1649707237168714940 : Unit := ()
def PySem.W.Fast.tw13611861791123637448 : Unit := ()
def PySem.W.Fast.tw4043003040965531849 : Unit := ()
def PySem.W.Fast.tw15910438321624824758 : Unit := ()
def PySem.W.Fast.tw15889586847782217612 : Unit := ()
def PySem.W.Fast.tw16764405163898838806 : Unit := ()
def PySem.W.Fast.tw16531371116385433509 : Unit := ()
def PySem.W.Fast.tw11872312848371640273 : Unit := ()
def PySem.W.Fast.tw1065197018286975662 : Unit := ()
def PySem.W.Fast.tw13978742217500581526 : Unit := ()
def PySem.W.Fast.tw4699735408020833211 : Unit := ()
def PySem.W.Fast.tw937957028112503600 : Unit := ()
def PySem.W.Fast.tw15214195629850544156 : Unit := ()
def PySem.W.Fast.tw629073189414793338 : Unit := ()
def PySem.W.Fast.tw4006552985008633877 : Unit := ()
def PySem.W.Fast.tw8248107549985296934 : Unit := ()
def PySem.W.Fast.tw2235957679253022293 : Unit := ()
def PySem.W.Fast.tw7206969037797703650 : Unit := ()
def PySem.W.Fast.tw13164227101435893682 : Unit := ()
def PySem.W.Fast.tw4233336423071736256 : Unit := ()
def PySem.W.Fast.tw16693151194329212946 : Unit := ()
def PySem.W.Fast.tw12705603712673598974 : Unit := ()
def PySem.W.Fast.tw2624668076045554371 : Unit := ()
def PySem.W.Fast.tw8015549120361070950 : Unit := ()
def PySem.W.Fast.tw1234118629218591682 : Unit := ()
def PySem.W.Fast.tw10080294100942682796 : Unit := ()
def PySem.W.Fast.tw15360209516715593452 : Unit := ()
def PySem.W.Fast.tw16295623727075455021 : Unit := ()
def PySem.W.Fast.tw17915684131607918703 : Unit := ()
def PySem.W.Fast.tw2106837628795698483 : Unit := ()
def PySem.W.Fast.tw2838650390961847811 : Unit := ()
def PySem.W.Fast.tw6146902171834234498 : Unit := ()
def PySem.W.Fast.tw17683254957629095732 : Unit := ()
def PySem.W.Fast.tw9362574543346439105 : Unit := ()
def PySem.W.Fast.tw1205697773037395139 : Unit := ()
def PySem.W.Fast.tw14059332084163132117 : Unit := ()
def PySem.W.Fast.tw13048801028663322193 : Unit := ()
def PySem.W.Fast.tw5989218677100182273 : Unit := ()
def PySem.W.Fast.tw5447473864557939193 : Unit := ()
def PySem.W.Fast.tw4605468929874691231 : Unit := ()
def PySem.W.Fast.tw2884989286253985428 : Unit := ()
def PySem.W.Fast.tw8729322110367127007 : Unit := ()
open PySem PySem.W PyProof.Rows
set_option maxRecDepth 100000 in
set_option maxHeartbeats 0 in
theorem PySem.Challenge.cw_tapeproof_k71_spoilt_texts_holds : PySem.Challenge.rw_tapeproof_k71_spoilt_texts.Holds := by
  w_on; o_law; z_head; (case hw=>w_witness2)
  k_fill
  refine V.walkX_of (fun P=>?E) (V.walk (l:=PySem.Challenge.rw_tapeproof_k71_spoilt_texts) [24,37,49,61,73,85,97,109,121,133,152,195] rfl rfl rfl (fun w h Y=>Y) ?F L3.law_true)
  case E=>kernel_rfl
  case F =>
    intro w mg h KX G
    refine' V.z_mk KX G ?_ ?_ ?_ ?_ ?_ ?_ ?_ ?_ ?_ ?_ ?_ ?_ ?_ ?_ ?_ ?_ ?_ ?_ ?_ ?_ ?_ ?_ ?_ ?_ ?_ ?_ ?_ ?_ ?_ ?_ ?_ ?_ ?_ ?_ ?_ ?_ ?_ ?_ ?_ ?_ ?_ ?_ ?_ ?_ ?_ ?_ ?_ ?_ ?_ ?_ ?_ ?_ ?_ ?_ ?_ ?_ ?_ ?_ ?_ ?_ ?_ ?_ ?_ ?_ ?_ ?_ ?_ ?_ ?_ ?_ ?_ ?_ ?_ ?_ ?_ ?_ ?_ ?_ ?_ ?_
    rotate_right 80
    iterate 12 (focus k_is)
    iterate 19 (focus (refine' V.fa_mk ?_ ?_ ?_ ?_; rotate_right 4; iterate 4 focus k_is))
    iterate 27 (focus k_is)
    iterate 13 (focus kernel_rfl)
    iterate 1 (focus k_exc)
    iterate 5 (focus k_is)
    iterate 3 (focus kernel_rfl)
